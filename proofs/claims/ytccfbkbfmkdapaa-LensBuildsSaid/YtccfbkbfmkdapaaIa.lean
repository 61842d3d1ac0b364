/-
  Items in memory; contract of Pack.
-/
import Derived.Test.YtccfbkbfmkdapaaHb
import Derived.Test.YtccfbkbfmkdapaaOa
namespace Go.Proofs.Ytccfbkbfmkdapaa
open Go.RowKit

/-- The cells of items. -/
def icl (r : List (Int × Int)) : List Value := r.flatMap fun x => [.int .i64 x.1, .int .i64 x.2]
theorem icl_cons (x : Int × Int) (r : List (Int × Int)) : icl (x :: r) = .int .i64 x.1 :: .int .i64 x.2 :: icl r := rfl
theorem icl_app (a b : List (Int × Int)) : icl a ++ icl b = icl (a ++ b) := by simp [icl]
theorem icl_len (r : List (Int × Int)) : (icl r).length = r.length * 2 := by
  induction r with
  | nil => rfl
  | cons x r ih => rw [icl_cons, List.length_cons, List.length_cons, ih, List.length_cons]; omega
theorem icl_one (r : List (Int × Int)) : ∀ u ∈ icl r, u.oneCell' = true := by
  induction r with
  | nil => intro u hu; cases hu
  | cons x r ih =>
    intro u hu
    rw [icl_cons, List.mem_cons, List.mem_cons] at hu
    rcases hu with rfl | rfl | hu
    · rfl
    · rfl
    · exact ih u hu
/-- The item at a place. -/
def itm (r : List (Int × Int)) (k : Nat) : Int × Int := r.getD k (0, 0)
theorem icl_at (r : List (Int × Int)) (k : Nat) (h : k < r.length) : (icl r)[k * 2]? = some (.int .i64 (itm r k).1) ∧ (icl r)[k * 2 + 1]? = some (.int .i64 (itm r k).2) := by
  induction r generalizing k with
  | nil => simp at h
  | cons x r ih =>
    cases k with
    | zero => exact ⟨rfl, rfl⟩
    | succ k =>
      have := ih k (by simpa using h)
      rw [icl_cons, show (k + 1) * 2 = k * 2 + 1 + 1 by omega, List.getElem?_cons_succ, List.getElem?_cons_succ, List.getElem?_cons_succ, List.getElem?_cons_succ]
      exact this

/-- A slice's address at which these items lie. -/
def TS (w : World) (ao : Option Addr) (r : List (Int × Int)) : Prop := r = [] ∨ ∃ b off, ao = some ⟨b, off, none⟩ ∧ w.rangeAt b off (icl r)
theorem TS.on {w w' : World} {ao : Option Addr} {r : List (Int × Int)} (h : TS w ao r) (hb : Below w.heap.size w w') : TS w' ao r := by
  rcases h with h | ⟨b, off, rfl, hc⟩
  · exact .inl h
  · exact .inr ⟨b, off, rfl, fun j v hv => by
      have := hc j v hv
      exact (hb.cell (World.block_lt_of_cell? w _ this)).trans this⟩
theorem TS.at {w : World} {ao : Option Addr} {r : List (Int × Int)} (h : TS w ao r) {k : Nat} (hk : k < r.length) :
    ∃ b off, ao = some ⟨b, off, none⟩ ∧ w.cell? ⟨b, off + k * 2, none⟩ = some (.int .i64 (itm r k).1) ∧ w.cell? ⟨b, off + k * 2 + 1, none⟩ = some (.int .i64 (itm r k).2) := by
  rcases h with rfl | ⟨b, off, rfl, hc⟩
  · simp at hk
  · have := icl_at r k hk
    exact ⟨b, off, rfl, hc _ _ this.1, by have := hc _ _ this.2; rwa [← Nat.add_assoc] at this⟩
theorem own_ts {w : World} {base e : Nat} {ao : Option Addr} {c n : Nat} {r : List (Int × Int)} (h : w.ownsRow base e 2 (.slice ao n c) n (icl r)) (hn : r.length = n) : TS w ao r := by
  subst hn
  rcases h.2 with ⟨e, h0⟩ | ⟨g, cap, cur, e, hbg, hh, hnc, hcm, hcs, htake⟩
  · exact .inl (List.eq_nil_of_length_eq_zero h0)
  · simp only [Value.slice.injEq] at e
    obtain ⟨rfl, _, rfl⟩ := e
    refine .inr ⟨g, 0, rfl, fun j v hv => ?_⟩
    have hj : j < r.length * 2 := by
      have := (List.getElem?_eq_some_iff.1 hv).1
      rwa [icl_len] at this
    rw [Nat.zero_add, World.ownsRow.cellAt h j (by omega), hv]
theorem at35 : AT 35 39 (.agg #[.int .i64 0, .int .i64 0]) 2 16 := ⟨by kernel_rfl, by kernel_rfl, rfl, by omega⟩
theorem at37 : AT 37 40 (.agg #[.int .i64 0, .int .i64 0]) 2 16 := ⟨by kernel_rfl, by kernel_rfl, rfl, by omega⟩
/-- One item in a block of its own, as append wants it. -/
theorem cells_item (w : World) (B : Nat) (hB : w.heap.size = B) (e : TypeId) (x : Int × Int) : CellsAt (w.alloc (.cells #[.int .i64 x.1, .int .i64 x.2] e)) (.slice (some ⟨B, 0, none⟩) 1 1) 1 (icl [x]) := by
  subst hB
  refine .inr ⟨_, 1, rfl, fun j u hu => ?_⟩
  rw [Addr.add_lit, Nat.zero_add, (Blk.made w e _).cell]
  have : j < 2 := by
    have := (List.getElem?_eq_some_iff.1 hu).1
    simpa [icl] using this
  rcases (by omega : j = 0 ∨ j = 1) with rfl | rfl
  · simpa [icl] using hu
  · simpa [icl] using hu

/-- A row of items of the call's own. -/
structure Tr (w : World) (e : Nat) (P : List (Int × Int)) (v : Value) (wr : World) : Prop where
  own : wr.ownsRow w.heap.size e 2 v P.length (icl P)
  below : Below w.heap.size w wr
theorem Tr.put {w wr w1 : World} {e : Nat} {P R : List (Int × Int)} {v v' : Value} {n : Nat} {o : Obj} (h : Tr w e P v wr) (hA : Apg (wr.alloc o) w.heap.size e 2 v n (icl P ++ icl R) v' w1) (hn : n = P.length + R.length) : Tr w e (P ++ R) v' w1 := by
  subst hn
  refine ⟨?_, h.below.trans (hA.alloc.below h.own h.below.size)⟩
  rw [List.length_append, ← icl_app]
  exact hA.own
theorem Tr.drewN {w wr : World} {e : Nat} {P : List (Int × Int)} {v : Value} (h : Tr w e P v wr) (q : Nat) : Tr w e P v (wr.drewN q) :=
  ⟨ownsRow_below h.own (below_drewN (Below.refl _ _) q), below_drewN h.below q⟩

/-- The item at a place of the lengths, the items from there on. -/
def pit (zs : List Int) (a : Nat) : Int × Int := (lsym zs a, ((lmany zs a - spl (lsym zs a) : Nat) : Int))
def pk (zs : List Int) : Nat → Nat → List (Int × Int)
  | 0, _ => []
  | f + 1, a => if a < zs.length then pit zs a :: pk zs f (a + lmany zs a) else []
def pkl (zs : List Int) : List (Int × Int) := pk zs zs.length 0
theorem lsym_or (zs : List Int) (a : Nat) : (lsym zs a = 18 ∧ 11 ≤ rl zs a) ∨ (lsym zs a = 17 ∧ 3 ≤ rl zs a) ∨ (lsym zs a = 16 ∧ 3 ≤ rl zs a) ∨ lsym zs a = zs.getD a 0 := by
  unfold lsym
  split
  · next h => exact .inl ⟨rfl, h.2⟩
  · split
    · next h => exact .inr (.inl ⟨rfl, h.2⟩)
    · split
      · next h => exact .inr (.inr (.inl ⟨rfl, h.2.1⟩))
      · exact .inr (.inr (.inr rfl))
theorem spl_small {x : Int} (h : x ≤ 15) : spl x = 1 ∧ spm x = 1 := by
  unfold spl spm
  constructor
  · rw [if_neg (by omega), if_neg (by omega), if_neg (by omega)]
  · rw [if_neg (by omega), if_neg (by omega), if_neg (by omega)]
theorem lmany_ge {zs : List Int} {a : Nat} (ha : a < zs.length) (hb : zs.getD a 0 ≤ 15) : spl (lsym zs a) ≤ lmany zs a ∧ 1 ≤ spl (lsym zs a) ∧ lmany zs a ≤ 138 ∧ a + lmany zs a ≤ zs.length := by
  have h1 := rl_pos ha
  have h2 := rl_le zs a (by omega)
  have h3 := spm_le (lsym zs a)
  unfold lmany
  rcases lsym_or zs a with ⟨h, k⟩ | ⟨h, k⟩ | ⟨h, k⟩ | h
  · rw [h] at h3 ⊢; simp [spl, spm]; omega
  · rw [h] at h3 ⊢; simp [spl, spm]; omega
  · rw [h] at h3 ⊢; simp [spl, spm]; omega
  · rw [h] at h3 ⊢; rw [(spl_small hb).1, (spl_small hb).2]; omega
theorem pk_fuel {zs : List Int} (hz : ∀ k, k < zs.length → zs.getD k 0 ≤ 15) (f : Nat) : ∀ g a, zs.length ≤ a + f → zs.length ≤ a + g → pk zs f a = pk zs g a := by
  induction f with
  | zero =>
    intro g a h1 h2
    cases g with
    | zero => rfl
    | succ g => rw [pk, pk, if_neg (by omega)]
  | succ f ih =>
    intro g a h1 h2
    by_cases ha : a < zs.length
    · have := lmany_ge ha (hz a ha)
      cases g with
      | zero => omega
      | succ g => rw [pk, pk, if_pos ha, if_pos ha, ih g _ (by omega) (by omega)]
    · cases g with
      | zero => rw [pk, pk, if_neg ha]
      | succ g => rw [pk, pk, if_neg ha, if_neg ha]
theorem pk_step {zs : List Int} (hz : ∀ k, k < zs.length → zs.getD k 0 ≤ 15) {a : Nat} (ha : a < zs.length) : pk zs (zs.length - a) a = pit zs a :: pk zs (zs.length - (a + lmany zs a)) (a + lmany zs a) := by
  have h := lmany_ge ha (hz a ha)
  obtain ⟨f, hf⟩ : ∃ f, zs.length - a = f + 1 := ⟨zs.length - a - 1, by omega⟩
  rw [hf, pk, if_pos ha, pk_fuel hz f (zs.length - (a + lmany zs a)) _ (by omega) (by omega)]
theorem pk_end {zs : List Int} {a : Nat} (ha : zs.length ≤ a) (f : Nat) : pk zs f a = [] := by
  cases f with
  | zero => rfl
  | succ f => rw [pk, if_neg (by omega)]

/-- Items have been made. -/
def Packed (zs : List Int) (w : World) (e : Ending) (w' : World) : Prop := ∃ ao c, e = .returned (.slice ao (pkl zs).length c) ∧ TS w' ao (pkl zs) ∧ Below w.heap.size w w'

set_option maxHeartbeats 4000000 in
theorem pack_bad (ao : Option Addr) (c : Nat) (zs : List Int) (w : World) (h : IS w ao zs) (hl : zs.length ≤ 1000) (hb : anyBad 0 15 zs = true) :
    Calls Try.prog 16 #[.slice ao zs.length c] w fun e w' => e = .returned (.slice none 0 0) ∧ Below w.heap.size w w' := by
  have HI := Lib.hid h
  have HBD := Lib.hid hb
  clear h hb
  go_enter Try.func16, Try.ntmps16
  go_wp2_with (first
    | (go_at_call 21; refine (outside_any _ _ _).mono ?_; rintro e w1 ⟨p, q, rfl, hk, hb, hp, hq⟩; have HK := Lib.hid hk; have HB := Lib.hid hb; clear hk hb; unfold fnOut)
    | (go_at_call 22; refine (contains_any ao c p q 0 15 zs w1 (by omega) (HI.out.below HB.out) HK.out).mono ?_; rintro e w2 ⟨rfl, rfl⟩; rw [HBD.out]))
  go_ret
  exact ⟨rfl, HB.out⟩

set_option maxHeartbeats 8000000 in
theorem pack_fine (ao : Option Addr) (c : Nat) (zs : List Int) (w : World) (h : IS w ao zs) (hl : zs.length ≤ 1000) (hb : anyBad 0 15 zs = false) :
    Calls Try.prog 16 #[.slice ao zs.length c] w (Packed zs w) := by
  have HI := Lib.hid h
  have HBD := Lib.hid hb
  have HZ : Hid (∀ k, k < zs.length → zs.getD k 0 ≤ 15) := Lib.hid fun k hk => by
    have h1 := List.any_eq_false.1 hb (zs.getD k 0) (by rw [List.getD_eq_getElem?_getD, List.getElem?_eq_getElem hk]; exact List.getElem_mem hk)
    have h2 : ¬ Bad 0 15 (zs.getD k 0) := fun e => h1 (decide_eq_true e)
    unfold Bad at h2; omega
  clear h hb
  go_enter Try.func16, Try.ntmps16
  go_wp2_with (first
    | (go_at_call 21; refine (outside_any _ _ _).mono ?_; rintro e w1 ⟨p, q, rfl, hk, hb, hp, hq⟩; have HK := Lib.hid hk; have HB := Lib.hid hb; clear hk hb; unfold fnOut)
    | (go_at_call 22; refine (contains_any ao c p q 0 15 zs w1 (by omega) (HI.out.below HB.out) HK.out).mono ?_; rintro e w2 ⟨rfl, rfl⟩; rw [HBD.out]))
  have H0 : Hid (Tr w 39 [] (.slice none 0 0) w2) := Lib.hid ⟨World.ownsRow_nil _ _ _ _, HB.out⟩
  clear HK HB HBD
  go_loopw [3, 4] (fun s3 s4 wr => ∃ (a : Nat) (P : List (Int × Int)) (a3 : Option Addr) (c3 : Nat), s3 = .slice a3 P.length c3 ∧ s4 = .int .i64 a ∧ a ≤ zs.length ∧ P.length ≤ a ∧ P ++ pk zs (zs.length - a) a = pkl zs ∧ Tr w 39 P (.slice a3 P.length c3) wr) (fun _ s4 _ => zs.length - (intOf s4).toNat)
  case atStart => exact ⟨0, [], none, 0, rfl, rfl, Nat.zero_le _, Nat.le_refl _, rfl, H0.out⟩
  case round =>
    obtain ⟨a, P, a3, c3, rfl, rfl, hal, hpa, hq, hT⟩ := hrel
    have HQ := Lib.hid hq
    have HT := Lib.hid hT
    clear hq hT H0
    by_cases hlt : a < zs.length
    · have hlt' : (a : Int) < zs.length := by omega
      obtain ⟨hm1, hm2, hm3, hm4⟩ := lmany_ge hlt (HZ.out a hlt)
      obtain ⟨sy, hsy⟩ : ∃ sy, sy = lsym zs a := ⟨_, rfl⟩
      obtain ⟨m, hm⟩ : ∃ m, m = lmany zs a := ⟨_, rfl⟩
      obtain ⟨l, hll⟩ : ∃ l, l = spl (lsym zs a) := ⟨_, rfl⟩
      obtain ⟨d, hd⟩ : ∃ d, d = m - l := ⟨_, rfl⟩
      have HS := Lib.hid (And.intro hsy (And.intro hm (And.intro hll hd)))
      rw [← hll] at hm1 hm2
      rw [← hm] at hm1 hm3 hm4
      have e1 : IntKind.i64.wrap ((m : Int) - l) = d := by rw [IntKind.wrap_i64]; omega
      have e2 : IntKind.i64.wrap ((a : Int) + m) = ((a + m : Nat) : Int) := by rw [IntKind.wrap_i64]; omega
      have HP : Hid (pit zs a = (sy, (d : Int))) := Lib.hid (by unfold pit; rw [hd, hm, hll, hsy])
      clear hsy hm hll hd
      go_wp2_with (first
        | (go_at_call 31; refine (longest_any ao c a zs wr (HI.out.below HT.out.below) hlt hl).mono ?_; rintro e w3 ⟨rfl, q, rfl⟩; rw [← HS.out.1, ← HS.out.2.1]; have HT2 := Lib.hid (HT.out.drewN q); generalize wr.drewN q = w4 at HT2 ⊢)
        | (go_at_call 32; refine (span_any _ _).mono ?_; rintro e w5 ⟨rfl, rfl⟩; rw [show spl sy = l by rw [HS.out.2.2.1, ← HS.out.1]])
        | (refine wpList_append_g at35 rfl (.tmp 27) (.tmp 33) rfl w.heap.size (.slice a3 P.length c3) (.slice (some ⟨w5.heap.size, 0, none⟩) 1 1) P.length 1 (icl P) (icl [(sy, (d : Int))]) rfl rfl (World.ownsRow.alloc (w := w5) HT2.out.own _) (cells_item w5 _ rfl 39 (sy, (d : Int))) rfl (icl_one _) (by simp; have := HT2.out.below.size; omega) (by omega) (by omega) ?_; intro ao2 cc2 w6 hA; have H3 := Lib.hid (HT2.out.put hA rfl); clear hA))
      go_roundw
      case rel =>
        refine ⟨a + m, P ++ [(sy, (d : Int))], ao2, cc2, by rw [List.length_append]; rfl, by go_num, hm4, by rw [List.length_append]; simp; omega, ?_, by rw [List.length_append]; exact H3.out⟩
        have h1 := HQ.out
        rw [pk_step HZ.out hlt, HP.out, ← HS.out.2.1] at h1
        rw [List.append_assoc]
        exact h1
      case measure => simp [intOf]; omega
    · have hge : a = zs.length := by omega
      subst hge
      go_wp2
      go_ret
      have hq2 := HQ.out
      rw [pk_end (Nat.le_refl _), List.append_nil] at hq2
      unfold Packed
      rw [← hq2]
      exact ⟨a3, c3, rfl, own_ts HT.out.own rfl, HT.out.below⟩
end Go.Proofs.Ytccfbkbfmkdapaa
