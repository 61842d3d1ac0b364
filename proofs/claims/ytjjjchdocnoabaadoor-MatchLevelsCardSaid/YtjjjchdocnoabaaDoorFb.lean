/-
  The finder in memory; three, lastAt, placesToLook, isWorth.
-/
import Derived.Test.YtjjjchdocnoabaaDoorFa
import Derived.Test.YtjjjchdocnoabaaDoorMq
import Derived.Maps.OwnSet
import Derived.Maps.OwnOps
import Derived.Maps.Views
import Derived.Lib.EndianBits
namespace Go.Proofs.YtjjjchdocnoabaaDoor
open Go.RowKit Go.Maps
set_option maxRecDepth 100000

theorem law60 : Keyed Tryd.prog 60 := int_keyed Tryd.underlying60
theorem zero3 (w : World) : (zeroValue 3).run Tryd.prog w = .ok (.int .i64 0) w := by kernel_rfl
theorem wf_u32 {k : Nat} (h : k < 16777216) : (Lit.int .u32 (k : Int)).wf = true := WalkArith.wf_u32 ⟨by omega, by omega⟩
theorem bs_at {b : List Nat} (h : Bs b) (i : Nat) : b.getD i 0 < 256 := by
  rw [List.getD_eq_getElem?_getD]
  cases hi : b[i]? with
  | none => simp
  | some x => simpa using h x (List.mem_of_getElem? hi)
/-- What the map tells: the last place of three bytes, among the first places. -/
structure Mof (bs : List Nat) (n : Nat) (D : DataW Unit) : Prop where
  map : IsMap D
  has : ∀ k : Nat, Maps.has D (.int .u32 (k : Int)) = (M.lastP bs k n).isSome
  at_ : ∀ k : Nat, D.atKey (.int .u32 (k : Int)) (.lit (.int .i64 0)) = .lit (.int .i64 (((M.lastP bs k n).getD 0 : Nat) : Int))
theorem Mof.start (bs : List Nat) : Mof bs 0 (.map []) := ⟨isMap_empty, fun _ => rfl, fun _ => rfl⟩
theorem Mof.step {bs : List Nat} {n : Nat} {D : DataW Unit} (h : Mof bs n D) : Mof bs (n + 1) (D.put (.int .u32 (M.key3 bs n : Nat)) (.lit (.int .i64 (n : Nat)))) := by
  refine ⟨h.map.put _ _, fun k => ?_, fun k => ?_⟩
  · by_cases e : M.key3 bs n = k
    · subst e
      rw [has_put_same h.map (show WideAt.IsKeyLit (.int .u32 _) from trivial), M.lastP, if_pos rfl]; rfl
    · rw [has_put_other (by intro h'; cases h'; exact e rfl), M.lastP, if_neg e, h.has]
  · by_cases e : M.key3 bs n = k
    · subst e
      rw [atKey_put_same h.map (show WideAt.IsKeyLit (.int .u32 _) from trivial), M.lastP, if_pos rfl]; rfl
    · rw [atKey_put_other (by intro h'; cases h'; exact e rfl), M.lastP, if_neg e, h.at_]

theorem by_cap {w : World} {v : Value} {bs : List Nat} (h : BySl w v bs) : ∀ k, v.ownBlock = some k → bs ≠ [] → k < w.heap.size := fun k hk hn => by
  obtain ⟨b, off, c, rfl, _, hc⟩ := h.at (List.length_pos_iff.2 hn)
  have := World.block_lt_of_cell? w _ (hc 0 (List.length_pos_iff.2 hn))
  have hk' : b = k := by simpa [Value.ownBlock] using hk
  subst hk'
  exact this
theorem by_far {S : Nat → Prop} {w w' : World} {B : Nat} {v : Value} {bs : List Nat} (h : BySl w v bs) (hf : ∀ k, v.ownBlock = some k → bs ≠ [] → k < B) (ht : Touch S w w') (hS : ∀ k, S k → B ≤ k) : BySl w' v bs := by
  by_cases e : bs = []
  · subst e
    rcases h with h | ⟨ad, c, h1, h2, _⟩
    · exact .inl h
    · exact .inr ⟨ad, c, h1, h2, fun j u hu => by simp [u8s] at hu⟩
  · exact h.touch ht fun k hk hs => by have := hf k hk e; have := hS k hs; omega
/-- The finder: its fields, the bytes, the map and the ring, with the first n places known. -/
structure Fin (w : World) (B p mb ab pl wt : Nat) (bv : Value) (bs : List Nat) (cop : Bool) (n : Nat) : Prop where
  blk : Blk w p 49 #[.int .i64 (pl : Nat), .int .i64 (wt : Nat), bv, .map (some mb), .slice (some ⟨ab, 0, none⟩) bs.length bs.length, .bool cop]
  by_ : BySl w bv bs
  map : ∃ D : DataW Unit, w.ownsMap Tryd.prog 60 (plainElem Tryd.prog 3) mb n D ∧ Mof bs n D
  ring : ∃ g : Nat → Int, Blk w ab 3 (va bs.length fun i => .int .i64 (g i)) ∧ ∀ q, q < n → g q = M.pv bs (M.key3 bs q) q
  far : (∀ k, bv.ownBlock = some k → bs ≠ [] → k < B) ∧ B ≤ p ∧ B ≤ mb ∧ B ≤ ab ∧ p ≠ ab ∧ p ≠ mb ∧ ab ≠ mb
  nums : pl ≤ 1000 ∧ wt ≤ 1000
theorem Fin.grow {w w' : World} {B p mb ab pl wt : Nat} {bv : Value} {bs : List Nat} {cop : Bool} {n : Nat} (h : Fin w B p mb ab pl wt bv bs cop n) (hb : Below w.heap.size w w') : Fin w' B p mb ab pl wt bv bs cop n := by
  obtain ⟨D, hD, hM⟩ := h.map
  obtain ⟨g, hg, hv⟩ := h.ring
  refine ⟨h.blk.below hb, by_on h.by_ hb, ⟨D, ?_, hM⟩, ⟨g, hg.below hb, hv⟩, h.far, h.nums⟩
  obtain ⟨es, clock, hk, F, hs, hD⟩ := hD
  exact ⟨es, clock, (hb.block mb (Array.getElem?_eq_some_iff.1 hk).1).trans hk, F, hs, hD⟩
theorem Fin.drewN {w : World} {B p mb ab pl wt : Nat} {bv : Value} {bs : List Nat} {cop : Bool} {n : Nat} (h : Fin w B p mb ab pl wt bv bs cop n) (q : Nat) : Fin (w.drewN q) B p mb ab pl wt bv bs cop n := h.grow (below_drewN (Below.refl _ _) q)

theorem or3 (x y z : Nat) (hx : x < 256) (hy : y < 256) (hz : z < 256) :
    bits BinOp.or IntKind.u32 (bits BinOp.or IntKind.u32 (x : Int) ((y : Int) * 256)) ((z : Int) * 65536) = ((x + 256 * y + 65536 * z : Nat) : Int) := by
  have h1 : bits BinOp.or IntKind.u32 (x : Int) ((y : Int) * 256) = (x : Int) + (y : Int) * 256 := Go.u32_or8 _ _ (by omega) (by omega) (by omega) (by omega) (by omega)
  have h2 : bits BinOp.or IntKind.u32 ((x : Int) + (y : Int) * 256) ((z : Int) * 65536) = (x : Int) + (y : Int) * 256 + (z : Int) * 65536 := Go.u32_or16 _ _ (by omega) (by omega) (by omega) (by omega) (by omega)
  rw [h1, h2]
  omega

set_option maxHeartbeats 1600000 in
theorem three_some (p mb ab pl wt : Nat) (ao : Option Addr) (c : Nat) (bs : List Nat) (cop : Bool) (n B at_ : Nat) (w : World) (h : Fin w B p mb ab pl wt (.slice ao bs.length c) bs cop n) (hb : Bs bs) (hl : bs.length ≤ 30000) (ha : at_ + 3 ≤ bs.length) :
    Calls Tryd.prog 27 #[.pointer (some ⟨p, 0, none⟩), .int .i64 at_] w fun e w' => e = .returned (.int .u32 (M.key3 bs at_ : Nat)) ∧ ∃ q, w' = w.drewN q := by
  have c2 := (h.blk.cell 2).trans (show _ = some (Value.slice ao bs.length c) from rfl)
  obtain ⟨b1, off, rfl, g0⟩ := by_cell h.by_ at_ (by omega)
  obtain ⟨b2, off2, he, g1⟩ := by_cell h.by_ (at_ + 1) (by omega)
  simp only [Option.some.injEq, Addr.mk.injEq, and_true] at he
  obtain ⟨rfl, rfl⟩ := he
  obtain ⟨b2, off2, he, g2⟩ := by_cell h.by_ (at_ + 2) (by omega)
  simp only [Option.some.injEq, Addr.mk.injEq, and_true] at he
  obtain ⟨rfl, rfl⟩ := he
  obtain ⟨x, hx⟩ : ∃ x, x = bs.getD at_ 0 := ⟨_, rfl⟩
  obtain ⟨y, hy⟩ : ∃ y, y = bs.getD (at_ + 1) 0 := ⟨_, rfl⟩
  obtain ⟨z, hz⟩ : ∃ z, z = bs.getD (at_ + 2) 0 := ⟨_, rfl⟩
  have hx8 : x < 256 := by rw [hx]; exact bs_at hb _
  have hy8 : y < 256 := by rw [hy]; exact bs_at hb _
  have hz8 : z < 256 := by rw [hz]; exact bs_at hb _
  rw [← hx] at g0
  rw [← hy] at g1
  rw [← hz] at g2
  obtain ⟨L, hL⟩ : ∃ L, L = bs.length := ⟨_, rfl⟩
  have HK : Hid (M.key3 bs at_ = x + 256 * y + 65536 * z) := Lib.hid (by unfold M.key3; rw [hx, hy, hz])
  obtain ⟨K, hK⟩ : ∃ K, K = M.key3 bs at_ := ⟨_, rfl⟩
  rw [← hK] at HK ⊢
  rw [← hL] at hl ha c2
  have e1 : IntKind.i64.wrap ((at_ : Int) + 1) = (at_ : Int) + 1 := by rw [IntKind.wrap_i64]; omega
  have e2 : IntKind.i64.wrap ((at_ : Int) + 2) = (at_ : Int) + 2 := by rw [IntKind.wrap_i64]; omega
  have l0 : (at_ : Int) < L := by omega
  have l1 : (at_ : Int) + 1 < L := by omega
  have l2 : (at_ : Int) + 2 < L := by omega
  have t1 : ((at_ : Int) + 1).toNat = at_ + 1 := by omega
  have t2 : ((at_ : Int) + 2).toNat = at_ + 2 := by omega
  have s1 : (0 : Int) ≤ (at_ : Int) + 1 := by omega
  have s2 : (0 : Int) ≤ (at_ : Int) + 2 := by omega
  clear h hx hy hz hL hb hK
  go_enter Tryd.func27, Tryd.ntmps27
  go_wp2
  go_quiet (fail)
  go_wp2
  have ho := or3 x y z hx8 hy8 hz8
  rw [ho, ← HK.out]
  go_ret
  exact ⟨rfl, _, rfl⟩
theorem three_any (p mb ab pl wt : Nat) (v : Value) (bs : List Nat) (cop : Bool) (n B at_ : Nat) (w : World) (h : Fin w B p mb ab pl wt v bs cop n) (hb : Bs bs) (hl : bs.length ≤ 30000) (ha : at_ + 3 ≤ bs.length) :
    Calls Tryd.prog 27 #[.pointer (some ⟨p, 0, none⟩), .int .i64 at_] w fun e w' => e = .returned (.int .u32 (M.key3 bs at_ : Nat)) ∧ ∃ q, w' = w.drewN q := by
  obtain ⟨ao, c, rfl⟩ := by_shape h.by_
  exact three_some p mb ab pl wt ao c bs cop n B at_ w h hb hl ha

/-- The last known place of the three bytes at a place. -/
def la (bs : List Nat) (at_ : Nat) : Int := if at_ + 3 ≤ bs.length then M.pv bs (M.key3 bs at_) at_ else -1
theorem Fin.look {w : World} {B p mb ab pl wt : Nat} {bv : Value} {bs : List Nat} {cop : Bool} {n : Nat} (h : Fin w B p mb ab pl wt bv bs cop n) (k : Nat) (hk : k < 16777216) :
    ∃ x : Nat, (∀ q, (Instr.lookup 46 (.map (some mb)) (.int .u32 (k : Nat)) true).run Tryd.prog (w.drewN q) = .ok (.tuple #[.int .i64 (x : Nat), .bool (M.lastP bs k n).isSome]) (w.drewN q)) ∧ ((M.lastP bs k n).isSome = true → ((x : Nat) : Int) = M.pv bs k n) ∧ ((M.lastP bs k n).isSome = false → M.pv bs k n = -1) := by
  refine ⟨(M.lastP bs k n).getD 0, fun q => ?_, fun h => ?_, fun h => ?_⟩
  · obtain ⟨D, hD, hM⟩ := (h.drewN q).map
    obtain ⟨v, ps, hrun, hv⟩ := hD.look_ok law60 Tryd.underlying46 (zero3 _) (plainElem_int Tryd.underlying3 (by decide)) (keyOf_int_mk Tryd.underlying60 (wf_u32 hk))
    rw [hM.at_ k] at hv
    obtain ⟨c, rfl, hc, _⟩ := plainElem_int_inv Tryd.underlying3 hv
    simp only [Prod.mk.injEq, DataW.lit.injEq, Lit.int.injEq, true_and] at hc
    rw [hrun, hM.has k, hc.1]
  · unfold M.pv
    cases hl : M.lastP bs k n with
    | none => rw [hl] at h; cases h
    | some p => rfl
  · unfold M.pv
    cases hl : M.lastP bs k n with
    | none => rfl
    | some p => rw [hl] at h; cases h

set_option maxHeartbeats 1600000 in
theorem lastAt_any (p mb ab pl wt : Nat) (v : Value) (bs : List Nat) (cop : Bool) (B at_ : Nat) (w : World) (h : at_ + 3 ≤ bs.length → Fin w B p mb ab pl wt v bs cop at_) (hv : w.cell? ⟨p, 2, none⟩ = some v) (hby : BySl w v bs) (hb : Bs bs) (hl : bs.length ≤ 30000) (ha : at_ ≤ bs.length) :
    Calls Tryd.prog 24 #[.pointer (some ⟨p, 0, none⟩), .int .i64 at_] w fun e w' => e = .returned (.int .i64 (la bs at_)) ∧ ∃ q, w' = w.drewN q := by
  obtain ⟨ao, c, rfl⟩ := by_shape hby
  by_cases h3 : at_ + 3 ≤ bs.length
  · have h := h h3
    obtain ⟨x, hx, hs, hn⟩ := h.look (M.key3 bs at_) (M.key3_lt hb at_)
    rw [show la bs at_ = M.pv bs (M.key3 bs at_) at_ from if_pos h3]
    have HT := Lib.hid fun q => three_any p mb ab pl wt _ bs cop at_ B at_ (w.drewN q) (h.drewN q) hb hl h3
    have c3 := (h.blk.cell 3).trans (show _ = some (Value.map (some mb)) from rfl)
    obtain ⟨L, hL⟩ : ∃ L, L = bs.length := ⟨_, rfl⟩
    obtain ⟨K, hK⟩ : ∃ K, K = M.key3 bs at_ := ⟨_, rfl⟩
    obtain ⟨y, hy⟩ : ∃ y, y = M.pv bs (M.key3 bs at_) at_ := ⟨_, rfl⟩
    obtain ⟨ok, hok⟩ : ∃ ok, ok = (M.lastP bs (M.key3 bs at_) at_).isSome := ⟨_, rfl⟩
    rw [← hok, ← hy] at hs hn
    rw [← hok] at hx
    rw [← hK] at HT hx
    rw [← hy]
    rw [← hL] at hl h3 hv
    have d1 : decide ((L : Int) < (at_ : Int) + 3) = false := by simp; omega
    have d2 : decide (L < at_ + 3) = false := by simp; omega
    clear h hb hok hy hK hL hby
    cases ok with
    | true =>
      obtain rfl : y = (x : Int) := (hs rfl).symm
      clear hs hn
      go_enter Tryd.func24, Tryd.ntmps24
      go_wp2
      go_quiet (first | (go_at_call 27; exact Calls.quiet_of (HT.out _)) | fail)
      go_wp2
      go_ret
      exact ⟨rfl, _, rfl⟩
    | false =>
      obtain rfl : y = -1 := hn rfl
      clear hs hn
      go_enter Tryd.func24, Tryd.ntmps24
      go_wp2
      go_quiet (first | (go_at_call 27; exact Calls.quiet_of (HT.out _)) | fail)
      go_wp2
      go_ret
      exact ⟨rfl, _, rfl⟩
  · rw [show la bs at_ = -1 from if_neg h3]
    obtain ⟨L, hL⟩ : ∃ L, L = bs.length := ⟨_, rfl⟩
    rw [← hL] at hl h3 hv ha
    have d1 : (L : Int) < (at_ : Int) + 3 := by omega
    have d2 : L < at_ + 3 := by omega
    clear h hb hL hby h3
    go_enter Tryd.func24, Tryd.ntmps24
    go_wp2
    go_ret
    exact ⟨rfl, 0, rfl⟩

theorem places_any (p pl : Nat) (cop : Bool) (w : World) (c0 : w.cell? ⟨p, 0, none⟩ = some (.int .i64 (pl : Nat))) (c5 : w.cell? ⟨p, 5, none⟩ = some (.bool cop)) :
    Calls Tryd.prog 25 #[.pointer (some ⟨p, 0, none⟩)] w fun e w' => e = .returned (.int .i64 ((if cop then pl else 32768 : Nat) : Int)) ∧ w' = w := by
  cases cop with
  | true =>
    go_enter Tryd.func25, Tryd.ntmps25
    go_wp2
    go_ret
    exact ⟨rfl, rfl⟩
  | false =>
    go_enter Tryd.func25, Tryd.ntmps25
    go_wp2
    go_ret
    exact ⟨rfl, rfl⟩
/-- Is a copy better than its bytes? -/
def worth (cop : Bool) (L D : Nat) : Bool := decide (3 < L) || (decide (L = 3) && cop && decide (D ≤ 4096))
theorem isWorth_any (p l L D : Nat) (cop : Bool) (w : World) (c5 : w.cell? ⟨p, 5, none⟩ = some (.bool cop)) (hp : p < w.heap.size) (hL : L ≤ 1000000) (hD : D ≤ 1000000) :
    Calls Tryd.prog 26 #[.pointer (some ⟨p, 0, none⟩), tv ⟨l, L, D⟩] w fun e w' => e = .returned (.bool (worth cop L D)) ∧ Below w.heap.size w w' := by
  have B1 := Lib.hid ((Below.refl w.heap.size w).alloc (Nat.le_refl _) (.cells #[.int .u8 (l : Nat), .int .i64 (L : Nat), .int .i64 (D : Nat)] 34))
  have fin : ∀ (c : Bool), worth cop L D = c → worth cop L D = c := fun c hc => hc
  have HF := Lib.hid fin
  have HP := Lib.hid (show (w.alloc (.cells #[.int .u8 (l : Nat), .int .i64 (L : Nat), .int .i64 (D : Nat)] 34)).cell? ⟨p, 5, none⟩ = some (.bool cop) from (B1.out.cell hp).trans c5)
  clear fin
  by_cases c1 : 3 < L
  · have d1 : (3 : Int) < L := by omega
    rw [HF.out true (by simp [worth, c1])]
    clear HF c1
    go_enter Tryd.func26, Tryd.ntmps26
    go_wp2
    go_ret
    exact ⟨rfl, B1.out⟩
  · have d1 : decide ((3 : Int) < L) = false := by simp; omega
    have d1' : decide (3 < L) = false := by simp; omega
    by_cases c2 : L = 3
    · subst c2
      cases cop with
      | true =>
        by_cases c3 : D ≤ 4096
        · have d3 : (D : Int) ≤ 4096 := by omega
          rw [HF.out true (by simp [worth, c3])]
          have c5' := HP.out
          clear HF c1 c3
          go_enter Tryd.func26, Tryd.ntmps26
          go_wp2
          go_ret
          exact ⟨rfl, B1.out⟩
        · have d3 : decide ((D : Int) ≤ 4096) = false := by simp; omega
          have d3' : decide (D ≤ 4096) = false := by simp; omega
          rw [HF.out false (by simp [worth]; omega)]
          have c5' := HP.out
          clear HF c1 c3
          go_enter Tryd.func26, Tryd.ntmps26
          go_wp2
          go_ret
          exact ⟨rfl, B1.out⟩
      | false =>
        rw [HF.out false (by simp [worth])]
        have c5' := HP.out
        clear HF c1
        go_enter Tryd.func26, Tryd.ntmps26
        go_wp2
        go_ret
        exact ⟨rfl, B1.out⟩
    · have d2 : ((L : Int) == 3) = false := by simp; omega
      rw [HF.out false (by simp [worth]; omega)]
      clear HF c1 c2
      go_enter Tryd.func26, Tryd.ntmps26
      go_wp2
      go_ret
      exact ⟨rfl, B1.out⟩
end Go.Proofs.YtjjjchdocnoabaaDoor
