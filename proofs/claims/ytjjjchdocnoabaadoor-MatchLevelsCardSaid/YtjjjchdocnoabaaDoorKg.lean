
/-
  The walk of MatchLevels, over what Find, Expand and Same do (Prg).
-/
import Derived.Test.YtjjjchdocnoabaaDoorKe
namespace Go.Proofs.YtjjjchdocnoabaaDoor
open Go.RowKit
set_option maxRecDepth 100000

/-- Bytes that come again so often. -/
def rp (xs : List Nat) : Nat → List Nat
  | 0 => []
  | n + 1 => rp xs n ++ xs
theorem rp_len (xs : List Nat) (n : Nat) : (rp xs n).length = n * xs.length := by
  induction n with
  | zero => simp [rp]
  | succ n ih => rw [rp, List.length_append, ih, Nat.succ_mul]
theorem rp_front (xs : List Nat) (n : Nat) : rp xs (n + 1) = xs ++ rp xs n := by
  induction n with
  | zero => simp [rp]
  | succ n ih => rw [rp, ih, List.append_assoc, ← rp, ih]
theorem rp_bs {xs : List Nat} (h : Bs xs) (n : Nat) : Bs (rp xs n) := by
  induction n with
  | zero => intro x hx; cases hx
  | succ n ih =>
    intro x hx
    rcases List.mem_append.1 hx with hx | hx
    · exact ih x hx
    · exact h x hx
theorem rp_four {xs : List Nat} (h4 : 4 ≤ xs.length) (hl : xs.length ≤ 32768) (n : Nat) : ¬ M.NoFour (rp xs (n + 2)) := by
  rw [rp_front, rp_front]
  exact M.rep_four h4 hl _

theorem levels_out {Tb : World → Prop} (P : Prg Tb) (ao : Option Addr) (L c : Nat) (a1 a2 : Int) (w : World) (hT : Tb w) (hL : L ≤ 9223372036854775807) (hl : ¬ (4 ≤ L ∧ L ≤ 200 ∧ 2 ≤ a1 ∧ a1 ≤ 20 ∧ 1 ≤ a2 ∧ a2 ≤ 9)) :
    Calls Tryd.prog 4 #[.slice ao L c, .int .i64 a1, .int .i64 a2] w fun e w' => e = .returned (.bool true) ∧ Below w.heap.size w w' := by
  have HA := Lib.hid (alive7_any P w hT)
  clear hT P
  by_cases c0 : 4 ≤ L
  · have f0 : decide ((L : Int) < 4) = false := by simp; omega
    have g0 : decide (L < 4) = false := by simp; omega
    by_cases c1 : L ≤ 200
    · have f1 : decide ((200 : Int) < L) = false := by simp; omega
      have g1 : decide (200 < L) = false := by simp; omega
      by_cases c2 : 2 ≤ a1
      · have f2 : decide (a1 < 2) = false := by simp; omega
        by_cases c3 : a1 ≤ 20
        · have f3 : decide (20 < a1) = false := by simp; omega
          by_cases c4 : 1 ≤ a2
          · have f4 : decide (a2 < 1) = false := by simp; omega
            by_cases c5 : a2 ≤ 9
            · have f5 : decide (9 < a2) = false := by simp; omega
              exact absurd ⟨c0, c1, c2, c3, c4, c5⟩ hl
            · have b5 : 9 < a2 := by omega
              clear hl c5
              go_enter Tryd.func4, Tryd.ntmps4
              go_wp2_with fail
              refine HA.out.mono ?_
              rintro e w1 ⟨rfl, hb1⟩
              have HB := Lib.hid hb1
              clear hb1
              go_wp2
              go_ret
              exact ⟨by simp, HB.out⟩
          · have b4 : a2 < 1 := by omega
            clear hl c4
            go_enter Tryd.func4, Tryd.ntmps4
            go_wp2_with fail
            refine HA.out.mono ?_
            rintro e w1 ⟨rfl, hb1⟩
            have HB := Lib.hid hb1
            clear hb1
            go_wp2
            go_ret
            exact ⟨by simp, HB.out⟩
        · have b3 : 20 < a1 := by omega
          clear hl c3
          go_enter Tryd.func4, Tryd.ntmps4
          go_wp2_with fail
          refine HA.out.mono ?_
          rintro e w1 ⟨rfl, hb1⟩
          have HB := Lib.hid hb1
          clear hb1
          go_wp2
          go_ret
          exact ⟨by simp, HB.out⟩
      · have b2 : a1 < 2 := by omega
        clear hl c2
        go_enter Tryd.func4, Tryd.ntmps4
        go_wp2_with fail
        refine HA.out.mono ?_
        rintro e w1 ⟨rfl, hb1⟩
        have HB := Lib.hid hb1
        clear hb1
        go_wp2
        go_ret
        exact ⟨by simp, HB.out⟩
    · have b1 : (200 : Int) < L := by omega
      clear hl c1
      go_enter Tryd.func4, Tryd.ntmps4
      go_wp2_with fail
      refine HA.out.mono ?_
      rintro e w1 ⟨rfl, hb1⟩
      have HB := Lib.hid hb1
      clear hb1
      go_wp2
      go_ret
      exact ⟨by simp, HB.out⟩
  · have b0 : (L : Int) < 4 := by omega
    clear hl c0
    go_enter Tryd.func4, Tryd.ntmps4
    go_wp2_with fail
    refine HA.out.mono ?_
    rintro e w1 ⟨rfl, hb1⟩
    have HB := Lib.hid hb1
    clear hb1
    go_wp2
    go_ret
    exact ⟨by simp, HB.out⟩

set_option maxHeartbeats 6400000 in
theorem levels_walk {Tb : World → Prop} (P : Prg Tb) (ao : Option Addr) (c : Nat) (xs : List Nat) (T : Nat) (a2 : Int) (w : World) (hT : Tb w) (h : BySl w (.slice ao xs.length c) xs) (hb : Bs xs) (h4 : 4 ≤ xs.length) (hl : xs.length ≤ 200) (hT2 : 2 ≤ T) (hT20 : T ≤ 20) (ha1 : 1 ≤ a2) (ha9 : a2 ≤ 9) :
    Calls Tryd.prog 4 #[.slice ao xs.length c, .int .i64 T, .int .i64 a2] w fun e w' => e = .returned (.bool true) ∧ Below w.heap.size w w' := by
  have HA := Lib.hid (alive7_any P w hT)
  have HP := Lib.hid P
  have HT := Lib.hid hT
  have HB := Lib.hid hb
  have HS := Lib.hid h
  have HNF : Hid (¬ M.NoFour (rp xs T)) := Lib.hid (by rw [show T = (T - 2) + 2 by omega]; exact rp_four h4 (by omega) _)
  obtain ⟨L, hL⟩ : ∃ L, L = xs.length := ⟨_, rfl⟩
  have HL := Lib.hid hL
  rw [← hL] at hl h4 HS ⊢
  have f0 : decide ((L : Int) < 4) = false := by simp; omega
  have g0 : decide (L < 4) = false := by simp; omega
  have f1 : decide ((200 : Int) < L) = false := by simp; omega
  have g1 : decide (200 < L) = false := by simp; omega
  have f2 : decide ((T : Int) < 2) = false := by simp; omega
  have g2 : decide (T < 2) = false := by simp; omega
  have f3 : decide ((20 : Int) < T) = false := by simp; omega
  have g3 : decide (20 < T) = false := by simp; omega
  have f4 : decide (a2 < 1) = false := by simp; omega
  have f5 : decide (9 < a2) = false := by simp; omega
  clear hL h hb hT P
  go_enter Tryd.func4, Tryd.ntmps4
  go_wp2_with fail
  refine HA.out.mono ?_
  rintro e w1 ⟨rfl, hb1⟩
  have B1 := Lib.hid hb1
  have S1 := Lib.hid (by_on HS.out hb1)
  have HX0 : Hid ((w1.alloc (.cells #[] 5)).ownsRow w1.heap.size 5 1 (.slice (some ⟨w1.heap.size, 0, none⟩) (0 * L) 0) (rp xs 0).length (u8s (rp xs 0)) ∧ Below w1.heap.size w1 (w1.alloc (.cells #[] 5))) :=
    Lib.hid ⟨by rw [Nat.zero_mul]; exact own_lit7 w1, (Below.refl _ _).alloc (Nat.le_refl _) _⟩
  clear hb1 HA HS f0 g0 f1 g1 f2 g2 f3 g3 f4 f5
  go_wp2
  go_loopg [7, 8] (T + 1) (fun gm v7 v8 wr => ∃ (i : Nat) (bo : Option Addr) (cu : Nat), i ≤ T ∧ T + 1 - i ≤ gm ∧ v7 = .slice bo (i * L : Nat) cu ∧ v8 = .int .i64 (i : Nat) ∧ Hid (wr.ownsRow w1.heap.size 5 1 (.slice bo (i * L : Nat) cu) (rp xs i).length (u8s (rp xs i)) ∧ Below w1.heap.size w1 wr))
  case atStart => exact ⟨0, _, _, Nat.zero_le _, Nat.le_refl _, by rw [Nat.zero_mul], rfl, HX0⟩
  case round =>
    clear HX0
    obtain ⟨i, bo, cu, hi, hgm, rfl, rfl, HX⟩ := hrel
    have hiL : i * L ≤ 4000 := Nat.le_trans (Nat.mul_le_mul (show i ≤ 20 by omega) hl) (by decide)
    have HRL : Hid ((rp xs i).length = i * L) := Lib.hid (by rw [rp_len, HL.out])
    obtain ⟨n, hn⟩ : ∃ n, n = i * L := ⟨_, rfl⟩
    have HNN := Lib.hid hn
    rw [← hn] at HX hiL HRL ⊢
    clear hn
    have hsz := HX.out.2.size
    by_cases hlt : i < T
    · have hlt' : (i : Int) < T := by omega
      have HSW := Lib.hid (by_on S1.out HX.out.2)
      go_wp2_with (refine wpList_append_x rfl (.tmp 44) (.tmp 45) rfl w1.heap.size (.slice bo n cu) (.slice ao L c) (rp xs i) xs rfl rfl HX.out.1 HSW.out (by omega) (by rw [HRL.out, ← HL.out]; omega) ?_; intro ao2 cc2 w5 hA; rw [List.length_append, HRL.out, ← HL.out] at hA; have HA := Lib.hid hA; rw [List.length_append, HRL.out, ← HL.out]; clear hA)
      go_roundg (T + 1 - (i + 1))
      case measure => omega
      case rel =>
        have e1 : n + L = (i + 1) * L := by rw [HNN.out, Nat.succ_mul]
        have h9 := HA.out
        rw [e1] at h9 ⊢
        exact ⟨i + 1, ao2, cc2, by omega, Nat.le_refl _, rfl, by simp, Lib.hid ⟨h9.own, HX.out.2.trans (h9.touch.below hsz fun k hk => (HX.out.1.lt k hk).1)⟩⟩
    · obtain rfl : i = T := by omega
      obtain ⟨all, hall⟩ : ∃ all, all = rp xs i := ⟨_, rfl⟩
      have HBA : Hid (Bs all) := Lib.hid (by rw [hall]; exact rp_bs HB.out i)
      rw [← hall] at HX HRL HNF
      have B2 := Lib.hid (bel_on B1.out HX.out.2)
      have O2 : Hid (BySl wr (.slice bo n cu) all) := Lib.hid (BySl.own HX.out.1)
      clear HX hall B1 S1 hlt
      go_wp2_with fail
      refine (HP.out.find _ _ all a2 (HP.out.keep HT.out B2.out) O2.out HBA.out (by rw [HRL.out]; omega)).mono ?_
      rintro e w3 ⟨ao3, c3, r, rfl, hks, hb3, _, hex, h8, _, hor⟩
      have hfew := fewer_of hex ((hor (by omega)).resolve_right HNF.out)
      rw [HRL.out] at hfew
      have B3 := Lib.hid (bel_on B2.out hb3)
      have O3 := Lib.hid (by_on O2.out hb3)
      have K3 := Lib.hid hks
      have HEX := Lib.hid (And.intro hex h8)
      obtain ⟨m, hm⟩ : ∃ m, m = r.length := ⟨_, rfl⟩
      have HM := Lib.hid hm
      rw [← hm] at hfew ⊢
      clear hm hks hb3 hex h8 hor O2 B2
      go_wp2_with fail
      have hE := HP.out.expand w3 ao3 c3 r (n : Int) K3.out (by rw [← HM.out]; omega) (fit_of HEX.out.1 HEX.out.2) (by omega)
      rw [← HM.out] at hE
      refine hE.mono ?_
      clear hE
      rintro e w4 ⟨hb4, h4'⟩
      have hL4 : M.exL (n : Int).toNat r [] = .inr all := M.exL_ok HEX.out.1 (by rw [HRL.out]; simp)
      obtain ⟨ao4, c4, rfl, ho4⟩ : ∃ ao4 c4, e = .returned (.tuple #[.slice ao4 n c4, .int .i64 0]) ∧ w4.ownsRow w3.heap.size 5 1 (.slice ao4 n c4) all.length (u8s all) := by
        rcases h4' with ⟨er, h, _⟩ | ⟨m, a2, c2, h, he, ho⟩
        · rw [hL4] at h; cases h
        · rw [hL4] at h; cases h; rw [HRL.out] at he; exact ⟨a2, c2, he, by have h7 := ho; rw [HRL.out] at h7 ⊢; exact h7⟩
      have B4 := Lib.hid (bel_on B3.out hb4)
      have O4 := Lib.hid (by_on O3.out hb4)
      have X4 : Hid (BySl w4 (.slice ao4 n c4) all) := Lib.hid (BySl.own ho4)
      have hmn : (m : Int) < n := by omega
      clear hb4 h4' hL4 ho4 O3 B3 K3
      go_wp2_with fail
      refine (same_any X4.out O4.out (by rw [HRL.out]; omega)).mono ?_
      rintro e w5 ⟨he, nq, rfl⟩
      rw [decide_eq_true rfl] at he
      subst he
      go_wp2
      go_ret
      exact ⟨rfl, below_drewN B4.out _⟩
end Go.Proofs.YtjjjchdocnoabaaDoor
