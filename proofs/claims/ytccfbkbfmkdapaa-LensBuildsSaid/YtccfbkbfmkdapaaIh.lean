/-
  Contract of Unpack.
-/
import Derived.Test.YtccfbkbfmkdapaaIg
import Derived.Test.YtccfbkbfmkdapaaGa
import Derived.Test.YtccfbkbfmkdapaaGb
namespace Go.Proofs.Ytccfbkbfmkdapaa
open Go.RowKit

/-- The lengths so far, in a box. -/
structure Un (w : World) (cx : Nat) (ts : List Int) (ao : Option Addr) (c : Nat) (wr : World) : Prop where
  box : Blk wr cx 22 #[.slice ao ts.length c]
  below : Below w.heap.size w wr
  own : wr.ownsRow (cx + 1) 3 1 (.slice ao ts.length c) ts.length (iv ts)
  lo : w.heap.size ≤ cx
  hi : cx + 1 ≤ wr.heap.size
theorem Un.cell {w wr : World} {cx c : Nat} {ts : List Int} {ao : Option Addr} (h : Un w cx ts ao c wr) : wr.cell? ⟨cx, 0, none⟩ = some (.slice ao ts.length c) := h.box.cell 0
theorem Un.grow {w wr w' : World} {cx c : Nat} {ts : List Int} {ao : Option Addr} (h : Un w cx ts ao c wr) (hb : Below wr.heap.size wr w') : Un w cx ts ao c w' :=
  ⟨h.box.below hb, h.below.trans (hb.mono h.below.size), ownsRow_below h.own hb, h.lo, Nat.le_trans h.hi hb.size⟩
theorem Un.is {w wr : World} {cx c : Nat} {ts : List Int} {ao : Option Addr} (h : Un w cx ts ao c wr) : IS wr ao ts := own_is h.own rfl
theorem Un.alloc {w wr : World} {cx c : Nat} {ts : List Int} {ao : Option Addr} (h : Un w cx ts ao c wr) (o : Obj) : Un w cx ts ao c (wr.alloc o) := h.grow ((Below.refl _ _).alloc (Nat.le_refl _) _)
/-- Behind an append, before the store: the box still holds the old row. -/
theorem Un.mid {w wr w3 : World} {cx c n : Nat} {ts : List Int} {xs : List Value} {ao : Option Addr} {v : Value} {o : Obj} (h : Un w cx ts ao c wr) (hA : Apg (wr.alloc o) (cx + 1) 3 1 (.slice ao ts.length c) n xs v w3) :
    Blk w3 cx 22 #[.slice ao ts.length c] ∧ Below w.heap.size w w3 ∧ cx + 1 ≤ w3.heap.size := by
  have h1 := (h.alloc o)
  have hBe := hA.below h1.own h1.hi
  exact ⟨h1.box.low hBe (Nat.lt_succ_self _), h1.below.trans (hBe.mono (Nat.le_succ_of_le h1.lo)), Nat.le_trans h1.hi hBe.size⟩
theorem Un.put {w wr w3 : World} {cx c : Nat} {ts : List Int} {ao ao2 : Option Addr} {c2 : Nat} {x : Int} {o : Obj} (h : Un w cx ts ao c wr)
    (hA : Apg (wr.alloc o) (cx + 1) 3 1 (.slice ao ts.length c) (ts.length + 1) (iv ts ++ [.int .i64 x]) (.slice ao2 (ts.length + 1 : Nat) c2) w3) : Un w cx (ts ++ [x]) ao2 c2 (w3.setCell ⟨cx, 0, none⟩ (.slice ao2 (ts.length + 1 : Nat) c2)) := by
  have e : iv ts ++ [.int .i64 x] = iv (ts ++ [x]) := by simp [iv]
  rw [e] at hA
  obtain ⟨h1, h2, h3⟩ := h.mid hA
  have hl : (ts ++ [x]).length = ts.length + 1 := by simp
  refine ⟨?_, ?_, ?_, h.lo, by simpa using h3⟩
  · rw [hl]; exact h1.setCell 0 _
  · exact h2.setCell h.lo _
  · rw [hl]
    refine ownsRow_touch hA.own ((Touch.refl (fun k => k = cx) w3).setCell ⟨cx, 0, none⟩ _ (.inl rfl)) fun k hk e => ?_
    have := (hA.own.lt k hk).1
    omega

theorem un_step {r : List (Int × Int)} {k : Nat} (hk : k < r.length) (ts : List Int) : un (r.drop k) ts = if Wi (itm r k).1 (itm r k).2 ts.length then none else un (r.drop (k + 1)) (ts ++ List.replicate ((spl (itm r k).1 : Int) + (itm r k).2).toNat (tv (itm r k).1 ts)) := by
  have e : r.drop k = itm r k :: r.drop (k + 1) := by
    rw [List.drop_eq_getElem_cons hk]
    simp [itm, List.getD, hk]
  rw [e]
  rfl
theorem un_end {r : List (Int × Int)} {ts : List Int} : un (r.drop r.length) ts = some ts := by
  rw [List.drop_length, un]

/-- What Unpack comes to. -/
def Unp (A : Option (List Int)) (w : World) (e : Ending) (w' : World) : Prop := Below w.heap.size w w' ∧
  (A = none → e = .returned (.tuple #[.slice none 0 0, .bool false])) ∧ ∀ ts, A = some ts → ∃ ao c, e = .returned (.tuple #[.slice ao ts.length c, .bool true]) ∧ IS w' ao ts

set_option maxHeartbeats 4000000 in
theorem unpack_any (ao : Option Addr) (c : Nat) (r : List (Int × Int)) (w : World) (h : TS w ao r) (hl : r.length ≤ 1000) :
    Calls Try.prog 17 #[.slice ao r.length c] w (Unp (un r []) w) := by
  have HI : Hid (∀ W, Below w.heap.size w W → TS W ao r) := Lib.hid fun W hW => h.on hW
  clear h
  obtain ⟨A, hA⟩ : ∃ A, A = un r [] := ⟨_, rfl⟩
  rw [← hA]
  have HA0 := Lib.hid hA
  clear hA
  go_enter Try.func17, Try.ntmps17
  go_wp2
  obtain ⟨cx, hcx⟩ : ∃ cx, cx = w.heap.size := ⟨_, rfl⟩
  have H0 : Hid (Un w cx [] none 0 (w.alloc (.cells #[.slice none 0 0] 22))) := Lib.hid ⟨by rw [hcx]; exact Blk.made _ _ _, (Below.refl _ w).alloc (Nat.le_refl _) _, World.ownsRow_nil _ _ _ _, by omega, by rw [hcx]; simp⟩
  rw [← hcx]
  clear hcx
  go_loopw [14] (fun iv' wr => ∃ (k : Nat) (ts : List Int) (bo : Option Addr) (cu : Nat), k ≤ r.length ∧ iv' = .int .i64 k ∧ ts.length ≤ 320 ∧ un (r.drop k) ts = A ∧ Un w cx ts bo cu wr) (fun iv' _ => r.length - (intOf iv').toNat)
  case atStart => exact ⟨0, [], none, 0, Nat.zero_le _, rfl, by simp, HA0.out.symm, H0.out⟩
  case round =>
    obtain ⟨k, ts, bo, cu, hk, rfl, htl, hun, hU⟩ := hrel
    have HUN := Lib.hid hun
    have HU := Lib.hid hU
    clear hun hU H0
    by_cases hlt : k < r.length
    · have hkk : (k : Int) < r.length := by omega
      obtain ⟨b1, o1, rfl, q1, q2⟩ := (HI.out _ HU.out.below).at hlt
      obtain ⟨s, hs⟩ : ∃ s, s = (itm r k).1 := ⟨_, rfl⟩
      obtain ⟨x, hx⟩ : ∃ x, x = (itm r k).2 := ⟨_, rfl⟩
      have HSX := Lib.hid (And.intro hs hx)
      rw [← hs] at q1
      rw [← hx] at q2
      clear hs hx
      by_cases hw : Wi s x ts.length
      · have HW := Lib.hid (decide_eq_true hw)
        clear hw
        go_wp2_with (go_at_call 33; (refine (wrong_any cx ts.length cu bo s x _ (HU.out.alloc _).cell htl).mono ?_); rintro e w1 ⟨rfl, hb1⟩; have HU1 := Lib.hid ((HU.out.alloc _).grow hb1); rw [HW.out]; clear hb1)
        go_ret2
        refine ⟨HU1.out.below, fun _ => rfl, fun ts' h => ?_⟩
        exfalso
        have h1 := HUN.out
        have h2 := HSX.out
        rw [h, un_step hlt, ← h2.1, ← h2.2, if_pos (of_decide_eq_true HW.out)] at h1
        cases h1
      · have HW := Lib.hid (decide_eq_false hw)
        have HWN := Lib.hid hw
        have hsl := sp_lim s
        obtain ⟨l, hl⟩ : ∃ l, l = spl s := ⟨_, rfl⟩
        obtain ⟨m, hm⟩ : ∃ m, m = spm s := ⟨_, rfl⟩
        have HSP := Lib.hid (And.intro hl.symm hm.symm)
        obtain ⟨n, hn⟩ : ∃ n, n = (l + x).toNat := ⟨_, rfl⟩
        have hnb : ts.length + n ≤ 320 := by unfold Wi Bad at hw; omega
        have e1 : IntKind.i64.wrap ((l : Int) + x) = n := by unfold Wi Bad at hw; rw [IntKind.wrap_i64]; omega
        have HN := Lib.hid hn
        obtain ⟨t, ht⟩ : ∃ t, t = tv s ts := ⟨_, rfl⟩
        have HTV := Lib.hid ht.symm
        clear ht
        clear hsl hl hm hn hw
        go_wp2_with (first
          | (go_at_call 33; (refine (wrong_any cx ts.length cu bo s x _ (HU.out.alloc _).cell htl).mono ?_); rintro e w1 ⟨rfl, hb1⟩; have HU1 := Lib.hid ((HU.out.alloc _).grow hb1); have HX1 := Lib.hid ((Blk.made wr 39 #[.int .i64 s, .int .i64 x]).below hb1); rw [HW.out]; clear hb1; have p1 := HX1.out.cell 0; have p2 := HX1.out.cell 1; have p3 := HU1.out.cell)
          | (go_at_call 32; refine (span_any _ _).mono ?_; rintro e w5 ⟨rfl, rfl⟩; rw [HSP.out.1, HSP.out.2])
          | (go_at_call 34; refine (told_any bo cu s ts _ HU1.out.is (fun e h0 => HWN.out (.inr (.inr (.inl ⟨e, by rw [h0]; rfl⟩)))) (by omega)).mono ?_; rintro e w6 ⟨rfl, rfl⟩; rw [HTV.out]))
        clear p1 p2 p3 e1
        have H1 : Hid (Un w cx (ts ++ List.replicate 0 t) bo cu w6) := Lib.hid (by simpa using HU1.out)
        go_loopw [35] (fun jv wr2 => ∃ (j : Nat) (bo2 : Option Addr) (cu2 : Nat), jv = .int .i64 j ∧ j ≤ n ∧ Un w cx (ts ++ List.replicate j t) bo2 cu2 wr2) (fun jv _ => n - (intOf jv).toNat)
        case atStart => exact ⟨0, bo, cu, rfl, Nat.zero_le _, H1.out⟩
        case round =>
          obtain ⟨j, bo2, cu2, rfl, hj, hU2⟩ := hrel
          have HU2 := Lib.hid hU2
          clear hU2 H1 HU1 HX1 HU q1 q2
          obtain ⟨ts2, ht2⟩ : ∃ ts2, ts2 = ts ++ List.replicate j t := ⟨_, rfl⟩
          have HT2 := Lib.hid ht2
          have ht2l : ts2.length ≤ 320 := by rw [ht2]; simp; omega
          rw [← ht2] at HU2
          clear ht2
          by_cases hlj : j < n
          · have hlj' : (j : Int) < n := by omega
            have p1 := HU2.out.cell
            go_wp2_with (refine wpList_append_g at22 rfl (.tmp 37) (.tmp 39) rfl (cx + 1) (.slice bo2 ts2.length cu2) (.slice (some ⟨wr.heap.size, 0, none⟩) 1 1) ts2.length 1 (iv ts2) [.int .i64 t] rfl rfl (World.ownsRow.alloc (w := wr) HU2.out.own _) (cells_1 wr 3 _) rfl (by simp [Value.oneCell']) (by have := HU2.out.hi; simp; omega) (by omega) (by omega) ?_; intro ao2 cc2 w3 hA; have HA := Lib.hid hA; clear hA; have p2 := (HU2.out.mid HA.out).1.cell 0; have p3 := (HU2.out.mid HA.out).1.free 0)
            go_roundw
            case rel =>
              refine ⟨j + 1, ao2, cc2, by go_num, by omega, ?_⟩
              have h1 := HU2.out.put HA.out
              rw [HT2.out, List.append_assoc, ← List.replicate_succ'] at h1
              rw [HT2.out] 
              exact h1
            case measure => simp [intOf]; omega
          · have hj' : j = n := by omega
            have HJ := Lib.hid hj'
            subst hj'
            have hjj : decide ((j : Int) < j) = false := decide_eq_false (by omega)
            go_wp2
            go_roundw
            case rel =>
              refine ⟨k + 1, ts2, bo2, cu2, by omega, by go_num, ht2l, ?_, HU2.out⟩
              have h1 := HUN.out
              have h2 := HSX.out
              rw [un_step hlt, ← h2.1, ← h2.2, if_neg HWN.out, HTV.out, HSP.out.1, ← HN.out, ← HT2.out] at h1
              exact h1
            case measure => simp [intOf]; omega
    · have hk' : k = r.length := by omega
      subst hk'
      have q1 := HU.out.cell
      go_wp2
      go_ret2
      refine ⟨HU.out.below, fun h => ?_, fun ts' h => ?_⟩
      · have h1 := HUN.out
        rw [h, un_end] at h1
        cases h1
      · have h1 := HUN.out
        rw [h, un_end] at h1
        cases h1
        exact ⟨bo, cu, rfl, HU.out.is⟩
end Go.Proofs.Ytccfbkbfmkdapaa
