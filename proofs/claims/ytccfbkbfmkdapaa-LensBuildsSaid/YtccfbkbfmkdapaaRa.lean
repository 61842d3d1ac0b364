/-
  The reference's merged.
-/
import Derived.Test.YtccfbkbfmkdapaaTe
namespace Go.Proofs.Ytccfbkbfmkdapaa
open Go.RowKit

theorem mrg2_len (cs ds : List Nat) : (mrg2 cs ds).length = cs.length + ds.length := by
  induction cs, ds using mrg2.induct with
  | case1 ds => rw [mrg2]; simp
  | case2 c cs ih => rw [mrg2, List.length_cons, ih]; simp
  | case3 c cs d ds hle ih => rw [mrg2, if_pos hle, List.length_cons, ih]; simp only [List.length_cons]; omega
  | case4 c cs d ds hle ih => rw [mrg2, if_neg hle, List.length_cons, ih]; simp only [List.length_cons]; omega
theorem drop_at (l : List Nat) {i : Nat} (h : i < l.length) : l.drop i = l.getD i 0 :: l.drop (i + 1) := by
  rw [List.drop_eq_getElem_cons h]
  simp [List.getD, h]
theorem mrg2_ds {cs ds : List Nat} {a i : Nat} (hi : i < ds.length) (h : cs.length ≤ a ∨ ds.getD i 0 ≤ cs.getD a 0) : mrg2 (cs.drop a) (ds.drop i) = ds.getD i 0 :: mrg2 (cs.drop a) (ds.drop (i + 1)) := by
  rw [drop_at ds hi]
  rcases Nat.lt_or_ge a cs.length with ha | ha
  · rw [drop_at cs ha, mrg2, if_pos (by rcases h with h | h; omega; exact h)]
  · rw [List.drop_eq_nil_of_le ha, mrg2, mrg2]
theorem mrg2_cs {cs ds : List Nat} {a i : Nat} (ha : a < cs.length) (h : ds.length ≤ i ∨ cs.getD a 0 < ds.getD i 0) : mrg2 (cs.drop a) (ds.drop i) = cs.getD a 0 :: mrg2 (cs.drop (a + 1)) (ds.drop i) := by
  rw [drop_at cs ha]
  rcases Nat.lt_or_ge i ds.length with hi | hi
  · rw [drop_at ds hi, mrg2, if_neg (by rcases h with h | h; omega; omega)]
  · rw [List.drop_eq_nil_of_le hi, mrg2]
theorem mrg2_end (cs ds : List Nat) {a i : Nat} (ha : cs.length ≤ a) (hi : ds.length ≤ i) : mrg2 (cs.drop a) (ds.drop i) = [] := by
  rw [List.drop_eq_nil_of_le ha, List.drop_eq_nil_of_le hi, mrg2]
theorem rev_at (cs : List Nat) {a b : Nat} (h : a + b + 1 = cs.length) : cs.reverse.getD b 0 = cs.getD a 0 := by
  simp only [List.getD]
  rw [List.getElem?_reverse (by omega), show cs.length - 1 - b = a by omega]
theorem Rn.drewN {w wr : World} {P : List Int} {v : Value} (h : Rn w P v wr) (q : Nat) : Rn w P v (wr.drewN q) :=
  ⟨ownsRow_below h.own (below_drewN (Below.refl _ _) q), below_drewN h.below q⟩

set_option maxHeartbeats 4000000 in
set_option maxRecDepth 100000 in
theorem rmerged_any (ao bo : Option Addr) (c d : Nat) (cs ds : List Nat) (w : World) (h : IS w ao (ints ds)) (h2 : IS w bo (ints cs.reverse)) (hl : cs.length ≤ 1000) (hl2 : ds.length ≤ 1000) {n m : Nat} (hn : n = cs.length) (hm : m = ds.length) :
    Calls Try.prog 30 #[.slice ao m c, .slice bo n d] w fun e w' => ∃ eo ce, e = .returned (.slice eo (mrg2 cs ds).length ce) ∧ IS w' eo (ints (mrg2 cs ds)) ∧ Below w.heap.size w w' := by
  have HI := Lib.hid h
  have HJ := Lib.hid h2
  have HN := Lib.hid hn
  have HM := Lib.hid hm
  rw [← hn] at hl
  rw [← hm] at hl2
  clear h h2 hn hm
  have H0 : Hid (Rn w [] (.slice (some ⟨w.heap.size, 0, none⟩) (0 : Nat) 0) (w.alloc (.cells #[] 3))) := Lib.hid ⟨own_none w 3 1, (Below.refl _ _).alloc (Nat.le_refl _) _⟩
  go_enter Try.func30, Try.ntmps30
  go_wp2
  generalize w.alloc (.cells #[] 3) = w1 at H0 ⊢
  generalize (⟨w.heap.size, 0, none⟩ : Addr) = ad at H0 ⊢
  go_loopw [5, 6, 7] (fun v5 kv iv wr => ∃ (P : List Int) (a i : Nat) (kk : Int) (eo : Option Addr) (cu : Nat), v5 = .slice eo P.length cu ∧ kv = .int .i64 kk ∧ iv = .int .i64 i ∧ (a : Int) + kk + 1 = n ∧ -1 ≤ kk ∧ i ≤ m ∧ P.length = a + i ∧ P ++ ints (mrg2 (cs.drop a) (ds.drop i)) = ints (mrg2 cs ds) ∧ Rn w P (.slice eo P.length cu) wr) (fun _ kv iv _ => (intOf kv + 1).toNat + (m - (intOf iv).toNat))
  case atStart => exact ⟨[], 0, 0, (n : Int) - 1, some ad, 0, rfl, by go_num, rfl, by omega, by omega, Nat.zero_le _, rfl, rfl, H0.out⟩
  case round =>
    obtain ⟨P, a, i, kk, eo, cu, rfl, rfl, rfl, hk1, hk2, hi, hp, hq, hR⟩ := hrel
    have HR := Lib.hid hR
    have HP := Lib.hid hp
    have HQ := Lib.hid hq
    have hpl : P.length ≤ 2000 := by omega
    clear hR hp hq H0
    by_cases hk0 : kk < 0
    · have hkm : kk = -1 := by omega
      subst hkm
      have han : Hid (a = n) := Lib.hid (by omega)
      by_cases hlt : i < m
      · have hii : (i : Int) < m := by omega
        obtain ⟨b1, o1, e1, q1⟩ := (HI.out.below HR.out.below).nat (k := i) (by rw [← HM.out]; exact hlt)
        subst e1
        obtain ⟨x, hx⟩ : ∃ x, x = ds.getD i 0 := ⟨_, rfl⟩
        have HX := Lib.hid hx
        clear hx q1 hk1 hk2
        go_wp2
        go_quiet (fail)
        have HR2 := Lib.hid (HR.out.drewN nq)
        clear HR
        generalize wr.drewN nq = w2 at HR2 ⊢
        obtain ⟨b2, o2, e2, q1⟩ := (HI.out.below HR2.out.below).nat (k := i) (by rw [← HM.out]; exact hlt)
        simp only [Option.some.injEq, Addr.mk.injEq, and_true] at e2
        obtain ⟨rfl, rfl⟩ := e2
        rw [← HX.out] at q1
        go_wp2_with (refine wpList_append_g at22 rfl (.tmp 39) (.tmp 44) rfl w.heap.size (.slice eo P.length cu) (.slice (some ⟨w2.heap.size, 0, none⟩) 1 1) P.length 1 (iv P) [.int .i64 (x : Nat)] rfl rfl (World.ownsRow.alloc (w := w2) HR2.out.own _) (cells_1 w2 3 _) rfl (by simp [Value.oneCell']) (by have := HR2.out.below.size; simp; omega) (by omega) (by omega) ?_; intro ao2 cc2 w4 hA; have HA := Lib.hid hA; clear hA)
        go_roundw
        case rel =>
          have h1 := HR2.out.put (R := [(x : Int)]) HA.out rfl
          refine ⟨P ++ [(x : Int)], a, i + 1, -1, ao2, cc2, by rw [List.length_append]; rfl, rfl, by go_num, by have := han.out; omega, by omega, by omega, by rw [List.length_append, HP.out]; rfl, ?_, by rw [List.length_append]; exact h1⟩
          have h2 := HQ.out
          rw [mrg2_ds (by rw [← HM.out]; exact hlt) (.inl (by rw [han.out, HN.out]; exact Nat.le_refl _)), ← HX.out] at h2
          rw [List.append_assoc]
          exact h2
        case measure => simp [intOf]; omega
      · have hii : (m : Int) ≤ i := by omega
        clear hk1 hk2
        go_wp2
        go_ret
        have h2 := HQ.out
        rw [mrg2_end cs ds (by rw [han.out, HN.out]; exact Nat.le_refl _) (by rw [← HM.out]; omega)] at h2
        have h3 : P = ints (mrg2 cs ds) := by rw [← h2]; simp [ints]
        have h4 : P.length = (mrg2 cs ds).length := by rw [h3, ints_len]
        refine ⟨eo, cu, by rw [← h4]; rfl, ?_, HR.out.below⟩
        rw [← h3]
        exact own_is HR.out.own rfl
    · obtain ⟨b, rfl⟩ : ∃ b : Nat, kk = b := ⟨kk.toNat, by omega⟩
      have hbn : b < n := by omega
      have hba : Hid (a + b + 1 = n) := Lib.hid (by omega)
      have hkb : (0 : Int) ≤ b := by omega
      have hbm : ((b : Int) < 0) = False := by simp
      have hbd : decide ((b : Int) < 0) = false := by simp
      obtain ⟨b3, o3, e3, q3⟩ := (HJ.out.below HR.out.below).nat (k := b) (by rw [List.length_reverse, ← HN.out]; exact hbn)
      subst e3
      obtain ⟨y, hy⟩ : ∃ y, y = cs.getD a 0 := ⟨_, rfl⟩
      have HY := Lib.hid hy
      rw [rev_at cs (by rw [← HN.out]; exact hba.out), ← hy] at q3
      have HYG : Hid (∀ W, Below w.heap.size w W → W.cell? ⟨b3, o3 + b, none⟩ = some (.int .i64 (y : Nat))) := Lib.hid fun W hW => by
        obtain ⟨b4, o4, e4, q4⟩ := (HJ.out.below hW).nat (k := b) (by rw [List.length_reverse, ← HN.out]; exact hbn)
        simp only [Option.some.injEq, Addr.mk.injEq, and_true] at e4
        obtain ⟨rfl, rfl⟩ := e4
        rw [rev_at cs (by rw [← HN.out]; exact hba.out), ← HY.out] at q4
        exact q4
      clear hy hk0 hk1 hk2
      by_cases hlt : i < m
      · have hii : (i : Int) < m := by omega
        obtain ⟨b1, o1, e1, q1⟩ := (HI.out.below HR.out.below).nat (k := i) (by rw [← HM.out]; exact hlt)
        subst e1
        obtain ⟨x, hx⟩ : ∃ x, x = ds.getD i 0 := ⟨_, rfl⟩
        have HX := Lib.hid hx
        rw [← hx] at q1
        clear hx
        by_cases hxy : x ≤ y
        · have hxy' : (x : Int) ≤ y := by omega
          have HXY := Lib.hid hxy
          go_wp2
          go_quiet (fail)
          have HR2 := Lib.hid (HR.out.drewN nq)
          clear HR q1 q3 hxy hxy'
          generalize wr.drewN nq = w2 at HR2 ⊢
          obtain ⟨b2, o2, e2, q1⟩ := (HI.out.below HR2.out.below).nat (k := i) (by rw [← HM.out]; exact hlt)
          simp only [Option.some.injEq, Addr.mk.injEq, and_true] at e2
          obtain ⟨rfl, rfl⟩ := e2
          rw [← HX.out] at q1
          go_wp2_with (refine wpList_append_g at22 rfl (.tmp 39) (.tmp 44) rfl w.heap.size (.slice eo P.length cu) (.slice (some ⟨w2.heap.size, 0, none⟩) 1 1) P.length 1 (iv P) [.int .i64 (x : Nat)] rfl rfl (World.ownsRow.alloc (w := w2) HR2.out.own _) (cells_1 w2 3 _) rfl (by simp [Value.oneCell']) (by have := HR2.out.below.size; simp; omega) (by omega) (by omega) ?_; intro ao2 cc2 w4 hA; have HA := Lib.hid hA; clear hA)
          go_roundw
          case rel =>
            have h1 := HR2.out.put (R := [(x : Int)]) HA.out rfl
            refine ⟨P ++ [(x : Int)], a, i + 1, b, ao2, cc2, by rw [List.length_append]; rfl, rfl, by go_num, by have := hba.out; omega, by omega, by omega, by rw [List.length_append, HP.out]; rfl, ?_, by rw [List.length_append]; exact h1⟩
            have h2 := HQ.out
            rw [mrg2_ds (by rw [← HM.out]; exact hlt) (.inr (by rw [← HX.out, ← HY.out]; exact HXY.out)), ← HX.out] at h2
            rw [List.append_assoc]
            exact h2
          case measure => simp [intOf]; omega
        · have hxy' : (y : Int) < x := by omega
          have HXY : Hid (y < x) := Lib.hid (by omega)
          have hxd : decide ((x : Int) ≤ y) = false := decide_eq_false (by omega)
          go_wp2
          go_quiet (fail)
          have HR2 := Lib.hid (HR.out.drewN nq)
          clear HR q1 q3 hxy hxy' hxd
          generalize wr.drewN nq = w2 at HR2 ⊢
          have q3 := HYG.out w2 HR2.out.below
          go_wp2_with (refine wpList_append_g at22 rfl (.tmp 48) (.tmp 53) rfl w.heap.size (.slice eo P.length cu) (.slice (some ⟨w2.heap.size, 0, none⟩) 1 1) P.length 1 (iv P) [.int .i64 (y : Nat)] rfl rfl (World.ownsRow.alloc (w := w2) HR2.out.own _) (cells_1 w2 3 _) rfl (by simp [Value.oneCell']) (by have := HR2.out.below.size; simp; omega) (by omega) (by omega) ?_; intro ao2 cc2 w4 hA; have HA := Lib.hid hA; clear hA)
          go_roundw
          case rel =>
            have h1 := HR2.out.put (R := [(y : Int)]) HA.out rfl
            refine ⟨P ++ [(y : Int)], a + 1, i, (b : Int) - 1, ao2, cc2, by rw [List.length_append]; rfl, by go_num, rfl, by have := hba.out; omega, by omega, by omega, by rw [List.length_append, HP.out]; simp; omega, ?_, by rw [List.length_append]; exact h1⟩
            have h2 := HQ.out
            rw [mrg2_cs (by rw [← HN.out]; have := hba.out; omega) (.inr (by rw [← HX.out, ← HY.out]; exact HXY.out)), ← HY.out] at h2
            rw [List.append_assoc]
            exact h2
          case measure => simp [intOf]
      · have hii : (m : Int) ≤ i := by omega
        go_wp2
        go_quiet (fail)
        have HR2 := Lib.hid (HR.out.drewN nq)
        clear HR q3
        generalize wr.drewN nq = w2 at HR2 ⊢
        have q3 := HYG.out w2 HR2.out.below
        go_wp2_with (refine wpList_append_g at22 rfl (.tmp 48) (.tmp 53) rfl w.heap.size (.slice eo P.length cu) (.slice (some ⟨w2.heap.size, 0, none⟩) 1 1) P.length 1 (iv P) [.int .i64 (y : Nat)] rfl rfl (World.ownsRow.alloc (w := w2) HR2.out.own _) (cells_1 w2 3 _) rfl (by simp [Value.oneCell']) (by have := HR2.out.below.size; simp; omega) (by omega) (by omega) ?_; intro ao2 cc2 w4 hA; have HA := Lib.hid hA; clear hA)
        go_roundw
        case rel =>
          have h1 := HR2.out.put (R := [(y : Int)]) HA.out rfl
          refine ⟨P ++ [(y : Int)], a + 1, i, (b : Int) - 1, ao2, cc2, by rw [List.length_append]; rfl, by go_num, rfl, by have := hba.out; omega, by omega, by omega, by rw [List.length_append, HP.out]; simp; omega, ?_, by rw [List.length_append]; exact h1⟩
          have h2 := HQ.out
          rw [mrg2_cs (by rw [← HN.out]; have := hba.out; omega) (.inl (by rw [← HM.out]; omega)), ← HY.out] at h2
          rw [List.append_assoc]
          exact h2
        case measure => simp [intOf]
end Go.Proofs.Ytccfbkbfmkdapaa
