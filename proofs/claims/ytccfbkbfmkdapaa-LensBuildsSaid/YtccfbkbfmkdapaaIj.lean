/-
  Contract of the reference's Pack.
-/
import Derived.Test.YtccfbkbfmkdapaaIi
namespace Go.Proofs.Ytccfbkbfmkdapaa
open Go.RowKit

set_option maxHeartbeats 16000000 in
set_option maxRecDepth 100000 in
theorem rpack_fine (ao : Option Addr) (c : Nat) (zs : List Int) (w : World) (h : IS w ao zs) (hl : zs.length ≤ 1000) (hb : ∀ k, k < zs.length → 0 ≤ zs.getD k 0 ∧ zs.getD k 0 ≤ 15) :
    Calls Try.prog 20 #[.slice ao zs.length c] w (Packed zs w) := by
  have HZ := Lib.hid hb
  have HI : Hid (∀ W, Below w.heap.size w W → IS W ao zs) := Lib.hid fun W hW => h.below hW
  clear h hb
  obtain ⟨L, hL⟩ : ∃ L, L = zs.length := ⟨_, rfl⟩
  have HLN := Lib.hid hL
  rw [← hL] at HZ hl ⊢
  clear hL
  have H0 : Hid (Tr w 40 [] (.slice (some ⟨w.heap.size, 0, none⟩) 0 0) (w.alloc (.cells #[] 40))) := Lib.hid ⟨own_none w 40 2, (Below.refl _ _).alloc (Nat.le_refl _) _⟩
  go_enter Try.func20, Try.ntmps20
  go_wp2
  generalize w.alloc (.cells #[] 40) = w1 at H0 ⊢
  generalize (⟨w.heap.size, 0, none⟩ : Addr) = ad at H0 ⊢
  go_loopw [4] (fun i wr => ∃ k : Nat, k ≤ L ∧ i = .int .i64 k ∧ wr = w1) (fun i _ => L - (intOf i).toNat)
  case atStart => exact ⟨0, Nat.zero_le _, rfl, rfl⟩
  case round =>
    obtain ⟨k, hk, rfl, rfl⟩ := hrel
    by_cases hlt : k < L
    · have hkk : (k : Int) < L := by omega
      obtain ⟨b1, o1, rfl, q1⟩ := (HI.out _ H0.out.below).at (k := k) (by rw [← HLN.out]; exact hlt)
      obtain ⟨x, hx⟩ : ∃ x, x = zs.getD k 0 := ⟨_, rfl⟩
      have hx2 := HZ.out k hlt
      rw [← hx] at q1 hx2
      have hx3 : decide (x < 0) = false := decide_eq_false (by omega)
      have hx4 : decide (15 < x) = false := decide_eq_false (by omega)
      have hx5 := hx2.1
      have hx6 := hx2.2
      clear hx hx2
      go_wp2
      go_roundw
      case rel => exact ⟨k + 1, by omega, by go_num, trivial⟩
      case measure => simp [intOf]; omega
    · have hk' : k = L := by omega
      subst hk'
      go_wp2
      clear hlt hk
      go_loopw [3, 5] (fun s3 s5 wr => ∃ (a : Nat) (P : List (Int × Int)) (a3 : Option Addr) (c3 : Nat), s3 = .slice a3 P.length c3 ∧ s5 = .int .i64 a ∧ a ≤ k ∧ P.length ≤ a ∧ P ++ pk zs (k - a) a = pkl zs ∧ Tr w 40 P (.slice a3 P.length c3) wr) (fun _ s5 _ => k - (intOf s5).toNat)
      case atStart => exact ⟨0, [], some ad, 0, rfl, rfl, Nat.zero_le _, Nat.le_refl _, by rw [HLN.out]; rfl, H0.out⟩
      case round =>
        obtain ⟨a, P, a3, c3, rfl, rfl, hal, hpa, hq, hT⟩ := hrel
        have HQ := Lib.hid hq
        have HT := Lib.hid hT
        clear hq hT H0
        by_cases hlt : a < k
        · have hlt' : (a : Int) < k := by omega
          go_wp2
          obtain ⟨x, hx⟩ : ∃ x, x = zs.getD a 0 := ⟨_, rfl⟩
          have HXX := Lib.hid hx
          have HXB := Lib.hid (HZ.out a hlt)
          rw [← hx] at HXB
          clear hx
          go_loopw [6] (fun v wr2 => ∃ n q : Nat, v = .int .i64 n ∧ 1 ≤ n ∧ n ≤ rl zs a ∧ a + n ≤ k ∧ wr2 = wr.drewN q) (fun v _ => 1001 - (intOf v).toNat)
          case atStart => exact ⟨1, 0, rfl, Nat.le_refl _, rl_pos (by rw [← HLN.out]; exact hlt), by omega, rfl⟩
          case round =>
            obtain ⟨n, q, rfl, hn1, hnr, hnk, hw⟩ := hrel
            have HT2 : Hid (Tr w 40 P (.slice a3 P.length c3) wr) := Lib.hid (by rw [hw]; exact HT.out.drewN q)
            have HW := Lib.hid hw
            have HNR := Lib.hid hnr
            clear hw hnr
            obtain ⟨m, hm⟩ : ∃ m, m = a + n := ⟨_, rfl⟩
            have HM := Lib.hid hm
            have e1 : IntKind.i64.wrap ((a : Int) + n) = m := by rw [IntKind.wrap_i64]; omega
            obtain ⟨b2, o2, rfl, q2⟩ := (HI.out _ HT2.out.below).at (k := a) (by rw [← HLN.out]; exact hlt)
            rw [← HXX.out] at q2
            by_cases c2 : m < k
            · have c2' : (m : Int) < k := by omega
              obtain ⟨b1, o1, e2, q1⟩ := (HI.out _ HT2.out.below).at (k := m) (by rw [← HLN.out]; exact c2)
              obtain ⟨rfl, rfl⟩ : b2 = b1 ∧ o2 = o1 := by simpa using e2
              clear e2
              obtain ⟨y, hy⟩ : ∃ y, y = zs.getD m 0 := ⟨_, rfl⟩
              have HY := Lib.hid hy
              rw [← hy] at q1
              clear hy hm
              by_cases c3 : y = x
              · have c3' : (y == x) = true := by simp [c3]
                have HC3 := Lib.hid c3
                clear c3
                go_wp2
                go_quiet (fail)
                clear e1
                go_wp2
                go_roundw
                case rel =>
                  refine ⟨n + 1, _, by go_num, by omega, ?_, by have := HM.out; omega, by rw [HW.out, World.drewN_drewN]⟩
                  have h1 := HNR.out
                  rcases Nat.lt_or_ge n (rl zs a) with h2 | h2
                  · exact h2
                  · exfalso
                    have h3 : n = rl zs a := by omega
                    have h4 := rl_stop (zs := zs) (a := a) (by rw [← h3, ← HM.out, ← HLN.out]; exact c2)
                    rw [← h3, ← HM.out, ← HXX.out, ← HY.out] at h4
                    exact h4 HC3.out
                case measure => simp [intOf]; omega
              · have c3' : (y == x) = false := by simp [c3]
                have HC3 := Lib.hid c3
                clear c3
                have HN : Hid (n = rl zs a) := Lib.hid (by
                  have h9 := rl_end (m := k) HNR.out (by omega) (by rw [← HLN.out]; omega) (.inr (.inr (by rw [← HM.out, ← HXX.out, ← HY.out]; exact HC3.out)))
                  have h8 := rl_le zs a (by rw [← HLN.out]; omega)
                  have h7 := HLN.out
                  omega)
                go_wp2
                go_quiet (fail)
                clear e1 q1 c2' c3'
                have HT7 : Hid (Tr w 40 P (.slice a3 P.length c3) (wr.drewN nq)) := Lib.hid (HT2.out.drewN nq)
                have q2 : (wr.drewN nq).cell? ⟨b2, o2 + a, none⟩ = some (.int .i64 x) := q2
                generalize wr.drewN nq = w7 at HT7 q2 ⊢
                clear HT2 HW HT
                by_cases hx0 : x = 0
                · have f0 : (x == 0) = true := by simp [hx0]
                  by_cases c11 : 11 ≤ n
                  · obtain ⟨m, hm⟩ : ∃ m, m = min n 138 := ⟨_, rfl⟩
                    have HPT : Hid (pit zs a = (18, ((m - 11 : Nat) : Int)) ∧ lmany zs a = m ∧ 1 ≤ m ∧ a + m ≤ k) := Lib.hid (by
                      have hsy : lsym zs a = 18 := by
                        unfold lsym
                        rw [← HXX.out, ← HN.out]
                        rw [if_pos ⟨hx0, c11⟩]
                      have hsp := sp_of (18 : Int)
                      have hxb := HXB.out
                      have hN := HN.out
                      have hmn : lmany zs a = min n (spm (18 : Int)) := by rw [lmany, hsy, HN.out]
                      have hM : lmany zs a = m := by rw [hmn]; omega
                      refine ⟨?_, hM, by omega, by omega⟩
                      unfold pit
                      rw [hM, hsy, Prod.mk.injEq]
                      refine ⟨rfl, ?_⟩
                      omega)
                    have f1 : (11 : Int) ≤ n := by omega
                    have f2 : min (n : Int) 138 = m := by omega
                    obtain ⟨d, hd⟩ : ∃ d, d = m - 11 := ⟨_, rfl⟩
                    have f3 : IntKind.i64.wrap ((m : Int) - 11) = d := by rw [IntKind.wrap_i64]; omega
                    rw [← hd] at HPT
                    clear hd
                    clear hm
                    have HX0 := Lib.hid hx0
                    clear hx0 c11
                    go_wp2_with (refine wpList_append_g at37 rfl (.tmp 62) (.tmp 66) rfl w.heap.size (.slice a3 P.length c3) (.slice (some ⟨w7.heap.size, 0, none⟩) 1 1) P.length 1 (icl P) (icl [(18, (d : Int))]) rfl rfl (World.ownsRow.alloc (w := w7) HT7.out.own _) (cells_item w7 _ rfl 40 (18, (d : Int))) rfl (icl_one _) (by simp; have := HT7.out.below.size; omega) (by omega) (by omega) ?_; intro ao2 cc2 w8 hA; have H3 := Lib.hid (HT7.out.put (R := [(18, (d : Int))]) hA rfl); clear hA)
                    go_roundw
                    case rel =>
                      refine ⟨a + m, P ++ [(18, (d : Int))], ao2, cc2, by rw [List.length_append]; rfl, by go_num, by have := HPT.out.2.2; omega, by rw [List.length_append]; simp; have := HPT.out.2.2; omega, ?_, by rw [List.length_append]; exact H3.out⟩
                      have h1 := HQ.out
                      rw [HLN.out, pk_step (fun j hj => (HZ.out j (by rw [HLN.out]; exact hj)).2) (by rw [← HLN.out]; exact hlt), HPT.out.1, HPT.out.2.1, ← HLN.out] at h1
                      rw [List.append_assoc]
                      exact h1
                    case measure => have := HPT.out.2.2; simp [intOf]; omega
                  · by_cases c3n : 3 ≤ n
                    · have HPT : Hid (pit zs a = (17, ((n - 3 : Nat) : Int)) ∧ lmany zs a = n ∧ 1 ≤ n ∧ a + n ≤ k) := Lib.hid (by
                        have hsy : lsym zs a = 17 := by
                          unfold lsym
                          rw [← HXX.out, ← HN.out]
                          rw [if_neg (by omega), if_pos ⟨hx0, c3n⟩]
                        have hsp := sp_of (17 : Int)
                        have hxb := HXB.out
                        have hN := HN.out
                        have hmn : lmany zs a = min n (spm (17 : Int)) := by rw [lmany, hsy, HN.out]
                        have hM : lmany zs a = n := by rw [hmn]; omega
                        refine ⟨?_, hM, by omega, by omega⟩
                        unfold pit
                        rw [hM, hsy, Prod.mk.injEq]
                        refine ⟨rfl, ?_⟩
                        omega)
                      have f1 : decide ((11 : Int) ≤ n) = false := decide_eq_false (by omega)
                      have f1' : (n : Int) < 11 := by omega
                      have f2 : (3 : Int) ≤ n := by omega
                      obtain ⟨d, hd⟩ : ∃ d, d = n - 3 := ⟨_, rfl⟩
                      have f3 : IntKind.i64.wrap ((n : Int) - 3) = d := by rw [IntKind.wrap_i64]; omega
                      rw [← hd] at HPT
                      clear hd
                      have HX0 := Lib.hid hx0
                      clear hx0 c11 c3n
                      go_wp2_with (refine wpList_append_g at37 rfl (.tmp 77) (.tmp 81) rfl w.heap.size (.slice a3 P.length c3) (.slice (some ⟨w7.heap.size, 0, none⟩) 1 1) P.length 1 (icl P) (icl [(17, (d : Int))]) rfl rfl (World.ownsRow.alloc (w := w7) HT7.out.own _) (cells_item w7 _ rfl 40 (17, (d : Int))) rfl (icl_one _) (by simp; have := HT7.out.below.size; omega) (by omega) (by omega) ?_; intro ao2 cc2 w8 hA; have H3 := Lib.hid (HT7.out.put (R := [(17, (d : Int))]) hA rfl); clear hA)
                      go_roundw
                      case rel =>
                        refine ⟨a + n, P ++ [(17, (d : Int))], ao2, cc2, by rw [List.length_append]; rfl, by go_num, by have := HPT.out.2.2; omega, by rw [List.length_append]; simp; have := HPT.out.2.2; omega, ?_, by rw [List.length_append]; exact H3.out⟩
                        have h1 := HQ.out
                        rw [HLN.out, pk_step (fun j hj => (HZ.out j (by rw [HLN.out]; exact hj)).2) (by rw [← HLN.out]; exact hlt), HPT.out.1, HPT.out.2.1, ← HLN.out] at h1
                        rw [List.append_assoc]
                        exact h1
                      case measure => have := HPT.out.2.2; simp [intOf]; omega
                    · have HPT : Hid (pit zs a = (x, ((0 : Nat) : Int)) ∧ lmany zs a = 1 ∧ 1 ≤ 1 ∧ a + 1 ≤ k) := Lib.hid (by
                        have hsy : lsym zs a = x := by
                          unfold lsym
                          rw [← HXX.out, ← HN.out]
                          rw [if_neg (by omega), if_neg (by omega), if_neg (by omega)]
                        have hsp := sp_of (x : Int)
                        have hxb := HXB.out
                        have hN := HN.out
                        have hmn : lmany zs a = min n (spm (x : Int)) := by rw [lmany, hsy, HN.out]
                        have hM : lmany zs a = 1 := by rw [hmn]; omega
                        refine ⟨?_, hM, by omega, by omega⟩
                        unfold pit
                        rw [hM, hsy, Prod.mk.injEq]
                        refine ⟨rfl, ?_⟩
                        omega)
                      have f0 : (x == 0) = true := by simp [hx0]
                      have f0' : (x != 0) = false := by simp [hx0]
                      have f1 : decide ((11 : Int) ≤ n) = false := decide_eq_false (by omega)
                      have f2 : decide ((3 : Int) ≤ n) = false := decide_eq_false (by omega)
                      have f1' : (n : Int) < 11 := by omega
                      have f2' : (n : Int) < 3 := by omega
                      have HX0 := Lib.hid hx0
                      clear hx0
                      go_wp2
                      go_quiet (fail)
                      have HT7 := Lib.hid (HT7.out.drewN nq)
                      have q4 : (w7.drewN nq).cell? ⟨b2, o2 + a, none⟩ = some (.int .i64 x) := q2
                      generalize w7.drewN nq = w9 at HT7 q4 ⊢
                      go_wp2_with (refine wpList_append_g at37 rfl (.tmp 116) (.tmp 122) rfl w.heap.size (.slice a3 P.length c3) (.slice (some ⟨w9.heap.size, 0, none⟩) 1 1) P.length 1 (icl P) (icl [(x, ((0 : Nat) : Int))]) rfl rfl (World.ownsRow.alloc (w := w9) HT7.out.own _) (cells_item w9 _ rfl 40 (x, ((0 : Nat) : Int))) rfl (icl_one _) (by simp; have := HT7.out.below.size; omega) (by omega) (by omega) ?_; intro ao2 cc2 w8 hA; have H3 := Lib.hid (HT7.out.put (R := [(x, ((0 : Nat) : Int))]) hA rfl); clear hA)
                      go_roundw
                      case rel =>
                        refine ⟨a + 1, P ++ [(x, ((0 : Nat) : Int))], ao2, cc2, by rw [List.length_append]; rfl, by go_num, by have := HPT.out.2.2; omega, by rw [List.length_append]; simp; have := HPT.out.2.2; omega, ?_, by rw [List.length_append]; exact H3.out⟩
                        have h1 := HQ.out
                        rw [HLN.out, pk_step (fun j hj => (HZ.out j (by rw [HLN.out]; exact hj)).2) (by rw [← HLN.out]; exact hlt), HPT.out.1, HPT.out.2.1, ← HLN.out] at h1
                        rw [List.append_assoc]
                        exact h1
                      case measure => have := HPT.out.2.2; simp [intOf]; omega
                · by_cases c3n : 3 ≤ n
                  · by_cases ca : 0 < a
                    · obtain ⟨p, hp⟩ : ∃ p, p = a - 1 := ⟨_, rfl⟩
                      have e1 : IntKind.i64.wrap ((a : Int) - 1) = p := by rw [IntKind.wrap_i64]; omega
                      have e2 : (p : Int) < k := by omega
                      obtain ⟨b5, o5, e5, q5⟩ := (HI.out _ HT7.out.below).at (k := p) (by rw [← HLN.out]; omega)
                      obtain ⟨rfl, rfl⟩ : b2 = b5 ∧ o2 = o5 := by simpa using e5
                      clear e5
                      obtain ⟨y, hy⟩ : ∃ y, y = zs.getD p 0 := ⟨_, rfl⟩
                      have HPV : Hid (y = zs.getD (a - 1) 0) := Lib.hid (by rw [hy, hp])
                      rw [← hy] at q5
                      clear hy hp
                      by_cases cp : y = x
                      · obtain ⟨m, hm⟩ : ∃ m, m = min n 6 := ⟨_, rfl⟩
                        have HPT : Hid (pit zs a = (16, ((m - 3 : Nat) : Int)) ∧ lmany zs a = m ∧ 1 ≤ m ∧ a + m ≤ k) := Lib.hid (by
                          have hsy : lsym zs a = 16 := by
                            unfold lsym
                            rw [← HXX.out, ← HN.out]
                            rw [if_neg (fun h => hx0 h.1), if_neg (fun h => hx0 h.1), if_pos ⟨hx0, c3n, ca, by rw [← HPV.out]; exact cp⟩]
                          have hsp := sp_of (16 : Int)
                          have hxb := HXB.out
                          have hN := HN.out
                          have hmn : lmany zs a = min n (spm (16 : Int)) := by rw [lmany, hsy, HN.out]
                          have hM : lmany zs a = m := by rw [hmn]; omega
                          refine ⟨?_, hM, by omega, by omega⟩
                          unfold pit
                          rw [hM, hsy, Prod.mk.injEq]
                          refine ⟨rfl, ?_⟩
                          omega)
                        have f0 : (x == 0) = false := by simp [hx0]
                        have f0' : (x != 0) = true := by simp [hx0]
                        have f1 : (3 : Int) ≤ n := by omega
                        have f4 : (0 : Int) < a := by omega
                        have f5 : (y == x) = true := by simp [cp]
                        have f2 : min (n : Int) 6 = m := by omega
                        obtain ⟨d, hd⟩ : ∃ d, d = m - 3 := ⟨_, rfl⟩
                        have f3 : IntKind.i64.wrap ((m : Int) - 3) = d := by rw [IntKind.wrap_i64]; omega
                        rw [← hd] at HPT
                        clear hd
                        clear hm
                        have HX0 := Lib.hid (And.intro hx0 cp)
                        clear hx0 cp
                        go_wp2
                        go_quiet (fail)
                        have HT7 := Lib.hid (HT7.out.drewN nq)
                        generalize w7.drewN nq = w9 at HT7 ⊢
                        go_wp2_with (refine wpList_append_g at37 rfl (.tmp 110) (.tmp 114) rfl w.heap.size (.slice a3 P.length c3) (.slice (some ⟨w9.heap.size, 0, none⟩) 1 1) P.length 1 (icl P) (icl [(16, (d : Int))]) rfl rfl (World.ownsRow.alloc (w := w9) HT7.out.own _) (cells_item w9 _ rfl 40 (16, (d : Int))) rfl (icl_one _) (by simp; have := HT7.out.below.size; omega) (by omega) (by omega) ?_; intro ao2 cc2 w8 hA; have H3 := Lib.hid (HT7.out.put (R := [(16, (d : Int))]) hA rfl); clear hA)
                        go_roundw
                        case rel =>
                          refine ⟨a + m, P ++ [(16, (d : Int))], ao2, cc2, by rw [List.length_append]; rfl, by go_num, by have := HPT.out.2.2; omega, by rw [List.length_append]; simp; have := HPT.out.2.2; omega, ?_, by rw [List.length_append]; exact H3.out⟩
                          have h1 := HQ.out
                          rw [HLN.out, pk_step (fun j hj => (HZ.out j (by rw [HLN.out]; exact hj)).2) (by rw [← HLN.out]; exact hlt), HPT.out.1, HPT.out.2.1, ← HLN.out] at h1
                          rw [List.append_assoc]
                          exact h1
                        case measure => have := HPT.out.2.2; simp [intOf]; omega
                      · have HPT : Hid (pit zs a = (x, ((0 : Nat) : Int)) ∧ lmany zs a = 1 ∧ 1 ≤ 1 ∧ a + 1 ≤ k) := Lib.hid (by
                          have hsy : lsym zs a = x := by
                            unfold lsym
                            rw [← HXX.out, ← HN.out]
                            rw [if_neg (fun h => hx0 h.1), if_neg (fun h => hx0 h.1), if_neg (fun h => cp (by rw [HPV.out]; exact h.2.2.2))]
                          have hsp := sp_of (x : Int)
                          have hxb := HXB.out
                          have hN := HN.out
                          have hmn : lmany zs a = min n (spm (x : Int)) := by rw [lmany, hsy, HN.out]
                          have hM : lmany zs a = 1 := by rw [hmn]; omega
                          refine ⟨?_, hM, by omega, by omega⟩
                          unfold pit
                          rw [hM, hsy, Prod.mk.injEq]
                          refine ⟨rfl, ?_⟩
                          omega)
                        have f0 : (x == 0) = false := by simp [hx0]
                        have f0' : (x != 0) = true := by simp [hx0]
                        have f1 : (3 : Int) ≤ n := by omega
                        have f4 : (0 : Int) < a := by omega
                        have f5 : (y == x) = false := by simp [cp]
                        have HX0 := Lib.hid hx0
                        clear hx0
                        go_wp2
                        go_quiet (fail)
                        have HT7 := Lib.hid (HT7.out.drewN nq)
                        have q4 : (w7.drewN nq).cell? ⟨b2, o2 + a, none⟩ = some (.int .i64 x) := q2
                        generalize w7.drewN nq = w9 at HT7 q4 ⊢
                        go_wp2_with (refine wpList_append_g at37 rfl (.tmp 116) (.tmp 122) rfl w.heap.size (.slice a3 P.length c3) (.slice (some ⟨w9.heap.size, 0, none⟩) 1 1) P.length 1 (icl P) (icl [(x, ((0 : Nat) : Int))]) rfl rfl (World.ownsRow.alloc (w := w9) HT7.out.own _) (cells_item w9 _ rfl 40 (x, ((0 : Nat) : Int))) rfl (icl_one _) (by simp; have := HT7.out.below.size; omega) (by omega) (by omega) ?_; intro ao2 cc2 w8 hA; have H3 := Lib.hid (HT7.out.put (R := [(x, ((0 : Nat) : Int))]) hA rfl); clear hA)
                        go_roundw
                        case rel =>
                          refine ⟨a + 1, P ++ [(x, ((0 : Nat) : Int))], ao2, cc2, by rw [List.length_append]; rfl, by go_num, by have := HPT.out.2.2; omega, by rw [List.length_append]; simp; have := HPT.out.2.2; omega, ?_, by rw [List.length_append]; exact H3.out⟩
                          have h1 := HQ.out
                          rw [HLN.out, pk_step (fun j hj => (HZ.out j (by rw [HLN.out]; exact hj)).2) (by rw [← HLN.out]; exact hlt), HPT.out.1, HPT.out.2.1, ← HLN.out] at h1
                          rw [List.append_assoc]
                          exact h1
                        case measure => have := HPT.out.2.2; simp [intOf]; omega
                    · have HPT : Hid (pit zs a = (x, ((0 : Nat) : Int)) ∧ lmany zs a = 1 ∧ 1 ≤ 1 ∧ a + 1 ≤ k) := Lib.hid (by
                        have hsy : lsym zs a = x := by
                          unfold lsym
                          rw [← HXX.out, ← HN.out]
                          rw [if_neg (fun h => hx0 h.1), if_neg (fun h => hx0 h.1), if_neg (fun h => ca h.2.2.1)]
                        have hsp := sp_of (x : Int)
                        have hxb := HXB.out
                        have hN := HN.out
                        have hmn : lmany zs a = min n (spm (x : Int)) := by rw [lmany, hsy, HN.out]
                        have hM : lmany zs a = 1 := by rw [hmn]; omega
                        refine ⟨?_, hM, by omega, by omega⟩
                        unfold pit
                        rw [hM, hsy, Prod.mk.injEq]
                        refine ⟨rfl, ?_⟩
                        omega)
                      have f0 : (x == 0) = false := by simp [hx0]
                      have f0' : (x != 0) = true := by simp [hx0]
                      have f1 : (3 : Int) ≤ n := by omega
                      have f4 : decide ((0 : Int) < a) = false := decide_eq_false (by omega)
                      have HX0 := Lib.hid hx0
                      clear hx0
                      go_wp2
                      go_quiet (fail)
                      have HT7 := Lib.hid (HT7.out.drewN nq)
                      have q4 : (w7.drewN nq).cell? ⟨b2, o2 + a, none⟩ = some (.int .i64 x) := q2
                      generalize w7.drewN nq = w9 at HT7 q4 ⊢
                      go_wp2_with (refine wpList_append_g at37 rfl (.tmp 116) (.tmp 122) rfl w.heap.size (.slice a3 P.length c3) (.slice (some ⟨w9.heap.size, 0, none⟩) 1 1) P.length 1 (icl P) (icl [(x, ((0 : Nat) : Int))]) rfl rfl (World.ownsRow.alloc (w := w9) HT7.out.own _) (cells_item w9 _ rfl 40 (x, ((0 : Nat) : Int))) rfl (icl_one _) (by simp; have := HT7.out.below.size; omega) (by omega) (by omega) ?_; intro ao2 cc2 w8 hA; have H3 := Lib.hid (HT7.out.put (R := [(x, ((0 : Nat) : Int))]) hA rfl); clear hA)
                      go_roundw
                      case rel =>
                        refine ⟨a + 1, P ++ [(x, ((0 : Nat) : Int))], ao2, cc2, by rw [List.length_append]; rfl, by go_num, by have := HPT.out.2.2; omega, by rw [List.length_append]; simp; have := HPT.out.2.2; omega, ?_, by rw [List.length_append]; exact H3.out⟩
                        have h1 := HQ.out
                        rw [HLN.out, pk_step (fun j hj => (HZ.out j (by rw [HLN.out]; exact hj)).2) (by rw [← HLN.out]; exact hlt), HPT.out.1, HPT.out.2.1, ← HLN.out] at h1
                        rw [List.append_assoc]
                        exact h1
                      case measure => have := HPT.out.2.2; simp [intOf]; omega
                  · have HPT : Hid (pit zs a = (x, ((0 : Nat) : Int)) ∧ lmany zs a = 1 ∧ 1 ≤ 1 ∧ a + 1 ≤ k) := Lib.hid (by
                      have hsy : lsym zs a = x := by
                        unfold lsym
                        rw [← HXX.out, ← HN.out]
                        rw [if_neg (fun h => hx0 h.1), if_neg (fun h => hx0 h.1), if_neg (fun h => c3n h.2.1)]
                      have hsp := sp_of (x : Int)
                      have hxb := HXB.out
                      have hN := HN.out
                      have hmn : lmany zs a = min n (spm (x : Int)) := by rw [lmany, hsy, HN.out]
                      have hM : lmany zs a = 1 := by rw [hmn]; omega
                      refine ⟨?_, hM, by omega, by omega⟩
                      unfold pit
                      rw [hM, hsy, Prod.mk.injEq]
                      refine ⟨rfl, ?_⟩
                      omega)
                    have f0 : (x == 0) = false := by simp [hx0]
                    have f0' : (x != 0) = true := by simp [hx0]
                    have f1 : decide ((3 : Int) ≤ n) = false := decide_eq_false (by omega)
                    have HX0 := Lib.hid hx0
                    clear hx0
                    go_wp2
                    go_quiet (fail)
                    have HT7 := Lib.hid (HT7.out.drewN nq)
                    have q4 : (w7.drewN nq).cell? ⟨b2, o2 + a, none⟩ = some (.int .i64 x) := q2
                    generalize w7.drewN nq = w9 at HT7 q4 ⊢
                    go_wp2_with (refine wpList_append_g at37 rfl (.tmp 116) (.tmp 122) rfl w.heap.size (.slice a3 P.length c3) (.slice (some ⟨w9.heap.size, 0, none⟩) 1 1) P.length 1 (icl P) (icl [(x, ((0 : Nat) : Int))]) rfl rfl (World.ownsRow.alloc (w := w9) HT7.out.own _) (cells_item w9 _ rfl 40 (x, ((0 : Nat) : Int))) rfl (icl_one _) (by simp; have := HT7.out.below.size; omega) (by omega) (by omega) ?_; intro ao2 cc2 w8 hA; have H3 := Lib.hid (HT7.out.put (R := [(x, ((0 : Nat) : Int))]) hA rfl); clear hA)
                    go_roundw
                    case rel =>
                      refine ⟨a + 1, P ++ [(x, ((0 : Nat) : Int))], ao2, cc2, by rw [List.length_append]; rfl, by go_num, by have := HPT.out.2.2; omega, by rw [List.length_append]; simp; have := HPT.out.2.2; omega, ?_, by rw [List.length_append]; exact H3.out⟩
                      have h1 := HQ.out
                      rw [HLN.out, pk_step (fun j hj => (HZ.out j (by rw [HLN.out]; exact hj)).2) (by rw [← HLN.out]; exact hlt), HPT.out.1, HPT.out.2.1, ← HLN.out] at h1
                      rw [List.append_assoc]
                      exact h1
                    case measure => have := HPT.out.2.2; simp [intOf]; omega
            · have c2' : decide ((m : Int) < k) = false := decide_eq_false (by omega)
              have c2'' : (k : Int) ≤ m := by omega
              clear hm
              have HN : Hid (n = rl zs a) := Lib.hid (by
                have h9 := rl_end (m := k) HNR.out (by omega) (by rw [← HLN.out]; omega) (.inr (.inl (by rw [← HM.out, ← HLN.out]; omega)))
                have h8 := rl_le zs a (by rw [← HLN.out]; omega)
                have h7 := HLN.out
                omega)
              go_wp2
              go_quiet (fail)
              clear e1 c2' c2''
              have HT7 : Hid (Tr w 40 P (.slice a3 P.length c3) (wr.drewN nq)) := Lib.hid (HT2.out.drewN nq)
              have q2 : (wr.drewN nq).cell? ⟨b2, o2 + a, none⟩ = some (.int .i64 x) := q2
              generalize wr.drewN nq = w7 at HT7 q2 ⊢
              clear HT2 HW HT
              by_cases hx0 : x = 0
              · have f0 : (x == 0) = true := by simp [hx0]
                by_cases c11 : 11 ≤ n
                · obtain ⟨m, hm⟩ : ∃ m, m = min n 138 := ⟨_, rfl⟩
                  have HPT : Hid (pit zs a = (18, ((m - 11 : Nat) : Int)) ∧ lmany zs a = m ∧ 1 ≤ m ∧ a + m ≤ k) := Lib.hid (by
                    have hsy : lsym zs a = 18 := by
                      unfold lsym
                      rw [← HXX.out, ← HN.out]
                      rw [if_pos ⟨hx0, c11⟩]
                    have hsp := sp_of (18 : Int)
                    have hxb := HXB.out
                    have hN := HN.out
                    have hmn : lmany zs a = min n (spm (18 : Int)) := by rw [lmany, hsy, HN.out]
                    have hM : lmany zs a = m := by rw [hmn]; omega
                    refine ⟨?_, hM, by omega, by omega⟩
                    unfold pit
                    rw [hM, hsy, Prod.mk.injEq]
                    refine ⟨rfl, ?_⟩
                    omega)
                  have f1 : (11 : Int) ≤ n := by omega
                  have f2 : min (n : Int) 138 = m := by omega
                  obtain ⟨d, hd⟩ : ∃ d, d = m - 11 := ⟨_, rfl⟩
                  have f3 : IntKind.i64.wrap ((m : Int) - 11) = d := by rw [IntKind.wrap_i64]; omega
                  rw [← hd] at HPT
                  clear hd
                  clear hm
                  have HX0 := Lib.hid hx0
                  clear hx0 c11
                  go_wp2_with (refine wpList_append_g at37 rfl (.tmp 62) (.tmp 66) rfl w.heap.size (.slice a3 P.length c3) (.slice (some ⟨w7.heap.size, 0, none⟩) 1 1) P.length 1 (icl P) (icl [(18, (d : Int))]) rfl rfl (World.ownsRow.alloc (w := w7) HT7.out.own _) (cells_item w7 _ rfl 40 (18, (d : Int))) rfl (icl_one _) (by simp; have := HT7.out.below.size; omega) (by omega) (by omega) ?_; intro ao2 cc2 w8 hA; have H3 := Lib.hid (HT7.out.put (R := [(18, (d : Int))]) hA rfl); clear hA)
                  go_roundw
                  case rel =>
                    refine ⟨a + m, P ++ [(18, (d : Int))], ao2, cc2, by rw [List.length_append]; rfl, by go_num, by have := HPT.out.2.2; omega, by rw [List.length_append]; simp; have := HPT.out.2.2; omega, ?_, by rw [List.length_append]; exact H3.out⟩
                    have h1 := HQ.out
                    rw [HLN.out, pk_step (fun j hj => (HZ.out j (by rw [HLN.out]; exact hj)).2) (by rw [← HLN.out]; exact hlt), HPT.out.1, HPT.out.2.1, ← HLN.out] at h1
                    rw [List.append_assoc]
                    exact h1
                  case measure => have := HPT.out.2.2; simp [intOf]; omega
                · by_cases c3n : 3 ≤ n
                  · have HPT : Hid (pit zs a = (17, ((n - 3 : Nat) : Int)) ∧ lmany zs a = n ∧ 1 ≤ n ∧ a + n ≤ k) := Lib.hid (by
                      have hsy : lsym zs a = 17 := by
                        unfold lsym
                        rw [← HXX.out, ← HN.out]
                        rw [if_neg (by omega), if_pos ⟨hx0, c3n⟩]
                      have hsp := sp_of (17 : Int)
                      have hxb := HXB.out
                      have hN := HN.out
                      have hmn : lmany zs a = min n (spm (17 : Int)) := by rw [lmany, hsy, HN.out]
                      have hM : lmany zs a = n := by rw [hmn]; omega
                      refine ⟨?_, hM, by omega, by omega⟩
                      unfold pit
                      rw [hM, hsy, Prod.mk.injEq]
                      refine ⟨rfl, ?_⟩
                      omega)
                    have f1 : decide ((11 : Int) ≤ n) = false := decide_eq_false (by omega)
                    have f1' : (n : Int) < 11 := by omega
                    have f2 : (3 : Int) ≤ n := by omega
                    obtain ⟨d, hd⟩ : ∃ d, d = n - 3 := ⟨_, rfl⟩
                    have f3 : IntKind.i64.wrap ((n : Int) - 3) = d := by rw [IntKind.wrap_i64]; omega
                    rw [← hd] at HPT
                    clear hd
                    have HX0 := Lib.hid hx0
                    clear hx0 c11 c3n
                    go_wp2_with (refine wpList_append_g at37 rfl (.tmp 77) (.tmp 81) rfl w.heap.size (.slice a3 P.length c3) (.slice (some ⟨w7.heap.size, 0, none⟩) 1 1) P.length 1 (icl P) (icl [(17, (d : Int))]) rfl rfl (World.ownsRow.alloc (w := w7) HT7.out.own _) (cells_item w7 _ rfl 40 (17, (d : Int))) rfl (icl_one _) (by simp; have := HT7.out.below.size; omega) (by omega) (by omega) ?_; intro ao2 cc2 w8 hA; have H3 := Lib.hid (HT7.out.put (R := [(17, (d : Int))]) hA rfl); clear hA)
                    go_roundw
                    case rel =>
                      refine ⟨a + n, P ++ [(17, (d : Int))], ao2, cc2, by rw [List.length_append]; rfl, by go_num, by have := HPT.out.2.2; omega, by rw [List.length_append]; simp; have := HPT.out.2.2; omega, ?_, by rw [List.length_append]; exact H3.out⟩
                      have h1 := HQ.out
                      rw [HLN.out, pk_step (fun j hj => (HZ.out j (by rw [HLN.out]; exact hj)).2) (by rw [← HLN.out]; exact hlt), HPT.out.1, HPT.out.2.1, ← HLN.out] at h1
                      rw [List.append_assoc]
                      exact h1
                    case measure => have := HPT.out.2.2; simp [intOf]; omega
                  · have HPT : Hid (pit zs a = (x, ((0 : Nat) : Int)) ∧ lmany zs a = 1 ∧ 1 ≤ 1 ∧ a + 1 ≤ k) := Lib.hid (by
                      have hsy : lsym zs a = x := by
                        unfold lsym
                        rw [← HXX.out, ← HN.out]
                        rw [if_neg (by omega), if_neg (by omega), if_neg (by omega)]
                      have hsp := sp_of (x : Int)
                      have hxb := HXB.out
                      have hN := HN.out
                      have hmn : lmany zs a = min n (spm (x : Int)) := by rw [lmany, hsy, HN.out]
                      have hM : lmany zs a = 1 := by rw [hmn]; omega
                      refine ⟨?_, hM, by omega, by omega⟩
                      unfold pit
                      rw [hM, hsy, Prod.mk.injEq]
                      refine ⟨rfl, ?_⟩
                      omega)
                    have f0 : (x == 0) = true := by simp [hx0]
                    have f0' : (x != 0) = false := by simp [hx0]
                    have f1 : decide ((11 : Int) ≤ n) = false := decide_eq_false (by omega)
                    have f2 : decide ((3 : Int) ≤ n) = false := decide_eq_false (by omega)
                    have f1' : (n : Int) < 11 := by omega
                    have f2' : (n : Int) < 3 := by omega
                    have HX0 := Lib.hid hx0
                    clear hx0
                    go_wp2
                    go_quiet (fail)
                    have HT7 := Lib.hid (HT7.out.drewN nq)
                    have q4 : (w7.drewN nq).cell? ⟨b2, o2 + a, none⟩ = some (.int .i64 x) := q2
                    generalize w7.drewN nq = w9 at HT7 q4 ⊢
                    go_wp2_with (refine wpList_append_g at37 rfl (.tmp 116) (.tmp 122) rfl w.heap.size (.slice a3 P.length c3) (.slice (some ⟨w9.heap.size, 0, none⟩) 1 1) P.length 1 (icl P) (icl [(x, ((0 : Nat) : Int))]) rfl rfl (World.ownsRow.alloc (w := w9) HT7.out.own _) (cells_item w9 _ rfl 40 (x, ((0 : Nat) : Int))) rfl (icl_one _) (by simp; have := HT7.out.below.size; omega) (by omega) (by omega) ?_; intro ao2 cc2 w8 hA; have H3 := Lib.hid (HT7.out.put (R := [(x, ((0 : Nat) : Int))]) hA rfl); clear hA)
                    go_roundw
                    case rel =>
                      refine ⟨a + 1, P ++ [(x, ((0 : Nat) : Int))], ao2, cc2, by rw [List.length_append]; rfl, by go_num, by have := HPT.out.2.2; omega, by rw [List.length_append]; simp; have := HPT.out.2.2; omega, ?_, by rw [List.length_append]; exact H3.out⟩
                      have h1 := HQ.out
                      rw [HLN.out, pk_step (fun j hj => (HZ.out j (by rw [HLN.out]; exact hj)).2) (by rw [← HLN.out]; exact hlt), HPT.out.1, HPT.out.2.1, ← HLN.out] at h1
                      rw [List.append_assoc]
                      exact h1
                    case measure => have := HPT.out.2.2; simp [intOf]; omega
              · by_cases c3n : 3 ≤ n
                · by_cases ca : 0 < a
                  · obtain ⟨p, hp⟩ : ∃ p, p = a - 1 := ⟨_, rfl⟩
                    have e1 : IntKind.i64.wrap ((a : Int) - 1) = p := by rw [IntKind.wrap_i64]; omega
                    have e2 : (p : Int) < k := by omega
                    obtain ⟨b5, o5, e5, q5⟩ := (HI.out _ HT7.out.below).at (k := p) (by rw [← HLN.out]; omega)
                    obtain ⟨rfl, rfl⟩ : b2 = b5 ∧ o2 = o5 := by simpa using e5
                    clear e5
                    obtain ⟨y, hy⟩ : ∃ y, y = zs.getD p 0 := ⟨_, rfl⟩
                    have HPV : Hid (y = zs.getD (a - 1) 0) := Lib.hid (by rw [hy, hp])
                    rw [← hy] at q5
                    clear hy hp
                    by_cases cp : y = x
                    · obtain ⟨m, hm⟩ : ∃ m, m = min n 6 := ⟨_, rfl⟩
                      have HPT : Hid (pit zs a = (16, ((m - 3 : Nat) : Int)) ∧ lmany zs a = m ∧ 1 ≤ m ∧ a + m ≤ k) := Lib.hid (by
                        have hsy : lsym zs a = 16 := by
                          unfold lsym
                          rw [← HXX.out, ← HN.out]
                          rw [if_neg (fun h => hx0 h.1), if_neg (fun h => hx0 h.1), if_pos ⟨hx0, c3n, ca, by rw [← HPV.out]; exact cp⟩]
                        have hsp := sp_of (16 : Int)
                        have hxb := HXB.out
                        have hN := HN.out
                        have hmn : lmany zs a = min n (spm (16 : Int)) := by rw [lmany, hsy, HN.out]
                        have hM : lmany zs a = m := by rw [hmn]; omega
                        refine ⟨?_, hM, by omega, by omega⟩
                        unfold pit
                        rw [hM, hsy, Prod.mk.injEq]
                        refine ⟨rfl, ?_⟩
                        omega)
                      have f0 : (x == 0) = false := by simp [hx0]
                      have f0' : (x != 0) = true := by simp [hx0]
                      have f1 : (3 : Int) ≤ n := by omega
                      have f4 : (0 : Int) < a := by omega
                      have f5 : (y == x) = true := by simp [cp]
                      have f2 : min (n : Int) 6 = m := by omega
                      obtain ⟨d, hd⟩ : ∃ d, d = m - 3 := ⟨_, rfl⟩
                      have f3 : IntKind.i64.wrap ((m : Int) - 3) = d := by rw [IntKind.wrap_i64]; omega
                      rw [← hd] at HPT
                      clear hd
                      clear hm
                      have HX0 := Lib.hid (And.intro hx0 cp)
                      clear hx0 cp
                      go_wp2
                      go_quiet (fail)
                      have HT7 := Lib.hid (HT7.out.drewN nq)
                      generalize w7.drewN nq = w9 at HT7 ⊢
                      go_wp2_with (refine wpList_append_g at37 rfl (.tmp 110) (.tmp 114) rfl w.heap.size (.slice a3 P.length c3) (.slice (some ⟨w9.heap.size, 0, none⟩) 1 1) P.length 1 (icl P) (icl [(16, (d : Int))]) rfl rfl (World.ownsRow.alloc (w := w9) HT7.out.own _) (cells_item w9 _ rfl 40 (16, (d : Int))) rfl (icl_one _) (by simp; have := HT7.out.below.size; omega) (by omega) (by omega) ?_; intro ao2 cc2 w8 hA; have H3 := Lib.hid (HT7.out.put (R := [(16, (d : Int))]) hA rfl); clear hA)
                      go_roundw
                      case rel =>
                        refine ⟨a + m, P ++ [(16, (d : Int))], ao2, cc2, by rw [List.length_append]; rfl, by go_num, by have := HPT.out.2.2; omega, by rw [List.length_append]; simp; have := HPT.out.2.2; omega, ?_, by rw [List.length_append]; exact H3.out⟩
                        have h1 := HQ.out
                        rw [HLN.out, pk_step (fun j hj => (HZ.out j (by rw [HLN.out]; exact hj)).2) (by rw [← HLN.out]; exact hlt), HPT.out.1, HPT.out.2.1, ← HLN.out] at h1
                        rw [List.append_assoc]
                        exact h1
                      case measure => have := HPT.out.2.2; simp [intOf]; omega
                    · have HPT : Hid (pit zs a = (x, ((0 : Nat) : Int)) ∧ lmany zs a = 1 ∧ 1 ≤ 1 ∧ a + 1 ≤ k) := Lib.hid (by
                        have hsy : lsym zs a = x := by
                          unfold lsym
                          rw [← HXX.out, ← HN.out]
                          rw [if_neg (fun h => hx0 h.1), if_neg (fun h => hx0 h.1), if_neg (fun h => cp (by rw [HPV.out]; exact h.2.2.2))]
                        have hsp := sp_of (x : Int)
                        have hxb := HXB.out
                        have hN := HN.out
                        have hmn : lmany zs a = min n (spm (x : Int)) := by rw [lmany, hsy, HN.out]
                        have hM : lmany zs a = 1 := by rw [hmn]; omega
                        refine ⟨?_, hM, by omega, by omega⟩
                        unfold pit
                        rw [hM, hsy, Prod.mk.injEq]
                        refine ⟨rfl, ?_⟩
                        omega)
                      have f0 : (x == 0) = false := by simp [hx0]
                      have f0' : (x != 0) = true := by simp [hx0]
                      have f1 : (3 : Int) ≤ n := by omega
                      have f4 : (0 : Int) < a := by omega
                      have f5 : (y == x) = false := by simp [cp]
                      have HX0 := Lib.hid hx0
                      clear hx0
                      go_wp2
                      go_quiet (fail)
                      have HT7 := Lib.hid (HT7.out.drewN nq)
                      have q4 : (w7.drewN nq).cell? ⟨b2, o2 + a, none⟩ = some (.int .i64 x) := q2
                      generalize w7.drewN nq = w9 at HT7 q4 ⊢
                      go_wp2_with (refine wpList_append_g at37 rfl (.tmp 116) (.tmp 122) rfl w.heap.size (.slice a3 P.length c3) (.slice (some ⟨w9.heap.size, 0, none⟩) 1 1) P.length 1 (icl P) (icl [(x, ((0 : Nat) : Int))]) rfl rfl (World.ownsRow.alloc (w := w9) HT7.out.own _) (cells_item w9 _ rfl 40 (x, ((0 : Nat) : Int))) rfl (icl_one _) (by simp; have := HT7.out.below.size; omega) (by omega) (by omega) ?_; intro ao2 cc2 w8 hA; have H3 := Lib.hid (HT7.out.put (R := [(x, ((0 : Nat) : Int))]) hA rfl); clear hA)
                      go_roundw
                      case rel =>
                        refine ⟨a + 1, P ++ [(x, ((0 : Nat) : Int))], ao2, cc2, by rw [List.length_append]; rfl, by go_num, by have := HPT.out.2.2; omega, by rw [List.length_append]; simp; have := HPT.out.2.2; omega, ?_, by rw [List.length_append]; exact H3.out⟩
                        have h1 := HQ.out
                        rw [HLN.out, pk_step (fun j hj => (HZ.out j (by rw [HLN.out]; exact hj)).2) (by rw [← HLN.out]; exact hlt), HPT.out.1, HPT.out.2.1, ← HLN.out] at h1
                        rw [List.append_assoc]
                        exact h1
                      case measure => have := HPT.out.2.2; simp [intOf]; omega
                  · have HPT : Hid (pit zs a = (x, ((0 : Nat) : Int)) ∧ lmany zs a = 1 ∧ 1 ≤ 1 ∧ a + 1 ≤ k) := Lib.hid (by
                      have hsy : lsym zs a = x := by
                        unfold lsym
                        rw [← HXX.out, ← HN.out]
                        rw [if_neg (fun h => hx0 h.1), if_neg (fun h => hx0 h.1), if_neg (fun h => ca h.2.2.1)]
                      have hsp := sp_of (x : Int)
                      have hxb := HXB.out
                      have hN := HN.out
                      have hmn : lmany zs a = min n (spm (x : Int)) := by rw [lmany, hsy, HN.out]
                      have hM : lmany zs a = 1 := by rw [hmn]; omega
                      refine ⟨?_, hM, by omega, by omega⟩
                      unfold pit
                      rw [hM, hsy, Prod.mk.injEq]
                      refine ⟨rfl, ?_⟩
                      omega)
                    have f0 : (x == 0) = false := by simp [hx0]
                    have f0' : (x != 0) = true := by simp [hx0]
                    have f1 : (3 : Int) ≤ n := by omega
                    have f4 : decide ((0 : Int) < a) = false := decide_eq_false (by omega)
                    have HX0 := Lib.hid hx0
                    clear hx0
                    go_wp2
                    go_quiet (fail)
                    have HT7 := Lib.hid (HT7.out.drewN nq)
                    have q4 : (w7.drewN nq).cell? ⟨b2, o2 + a, none⟩ = some (.int .i64 x) := q2
                    generalize w7.drewN nq = w9 at HT7 q4 ⊢
                    go_wp2_with (refine wpList_append_g at37 rfl (.tmp 116) (.tmp 122) rfl w.heap.size (.slice a3 P.length c3) (.slice (some ⟨w9.heap.size, 0, none⟩) 1 1) P.length 1 (icl P) (icl [(x, ((0 : Nat) : Int))]) rfl rfl (World.ownsRow.alloc (w := w9) HT7.out.own _) (cells_item w9 _ rfl 40 (x, ((0 : Nat) : Int))) rfl (icl_one _) (by simp; have := HT7.out.below.size; omega) (by omega) (by omega) ?_; intro ao2 cc2 w8 hA; have H3 := Lib.hid (HT7.out.put (R := [(x, ((0 : Nat) : Int))]) hA rfl); clear hA)
                    go_roundw
                    case rel =>
                      refine ⟨a + 1, P ++ [(x, ((0 : Nat) : Int))], ao2, cc2, by rw [List.length_append]; rfl, by go_num, by have := HPT.out.2.2; omega, by rw [List.length_append]; simp; have := HPT.out.2.2; omega, ?_, by rw [List.length_append]; exact H3.out⟩
                      have h1 := HQ.out
                      rw [HLN.out, pk_step (fun j hj => (HZ.out j (by rw [HLN.out]; exact hj)).2) (by rw [← HLN.out]; exact hlt), HPT.out.1, HPT.out.2.1, ← HLN.out] at h1
                      rw [List.append_assoc]
                      exact h1
                    case measure => have := HPT.out.2.2; simp [intOf]; omega
                · have HPT : Hid (pit zs a = (x, ((0 : Nat) : Int)) ∧ lmany zs a = 1 ∧ 1 ≤ 1 ∧ a + 1 ≤ k) := Lib.hid (by
                    have hsy : lsym zs a = x := by
                      unfold lsym
                      rw [← HXX.out, ← HN.out]
                      rw [if_neg (fun h => hx0 h.1), if_neg (fun h => hx0 h.1), if_neg (fun h => c3n h.2.1)]
                    have hsp := sp_of (x : Int)
                    have hxb := HXB.out
                    have hN := HN.out
                    have hmn : lmany zs a = min n (spm (x : Int)) := by rw [lmany, hsy, HN.out]
                    have hM : lmany zs a = 1 := by rw [hmn]; omega
                    refine ⟨?_, hM, by omega, by omega⟩
                    unfold pit
                    rw [hM, hsy, Prod.mk.injEq]
                    refine ⟨rfl, ?_⟩
                    omega)
                  have f0 : (x == 0) = false := by simp [hx0]
                  have f0' : (x != 0) = true := by simp [hx0]
                  have f1 : decide ((3 : Int) ≤ n) = false := decide_eq_false (by omega)
                  have HX0 := Lib.hid hx0
                  clear hx0
                  go_wp2
                  go_quiet (fail)
                  have HT7 := Lib.hid (HT7.out.drewN nq)
                  have q4 : (w7.drewN nq).cell? ⟨b2, o2 + a, none⟩ = some (.int .i64 x) := q2
                  generalize w7.drewN nq = w9 at HT7 q4 ⊢
                  go_wp2_with (refine wpList_append_g at37 rfl (.tmp 116) (.tmp 122) rfl w.heap.size (.slice a3 P.length c3) (.slice (some ⟨w9.heap.size, 0, none⟩) 1 1) P.length 1 (icl P) (icl [(x, ((0 : Nat) : Int))]) rfl rfl (World.ownsRow.alloc (w := w9) HT7.out.own _) (cells_item w9 _ rfl 40 (x, ((0 : Nat) : Int))) rfl (icl_one _) (by simp; have := HT7.out.below.size; omega) (by omega) (by omega) ?_; intro ao2 cc2 w8 hA; have H3 := Lib.hid (HT7.out.put (R := [(x, ((0 : Nat) : Int))]) hA rfl); clear hA)
                  go_roundw
                  case rel =>
                    refine ⟨a + 1, P ++ [(x, ((0 : Nat) : Int))], ao2, cc2, by rw [List.length_append]; rfl, by go_num, by have := HPT.out.2.2; omega, by rw [List.length_append]; simp; have := HPT.out.2.2; omega, ?_, by rw [List.length_append]; exact H3.out⟩
                    have h1 := HQ.out
                    rw [HLN.out, pk_step (fun j hj => (HZ.out j (by rw [HLN.out]; exact hj)).2) (by rw [← HLN.out]; exact hlt), HPT.out.1, HPT.out.2.1, ← HLN.out] at h1
                    rw [List.append_assoc]
                    exact h1
                  case measure => have := HPT.out.2.2; simp [intOf]; omega
        · have hge : a = k := by omega
          subst hge
          go_wp2
          go_ret
          have hq2 := HQ.out
          rw [pk_end (by rw [HLN.out]; exact Nat.le_refl _), List.append_nil] at hq2
          unfold Packed
          rw [← hq2]
          exact ⟨a3, c3, rfl, own_ts HT.out.own rfl, HT.out.below⟩
end Go.Proofs.Ytccfbkbfmkdapaa
