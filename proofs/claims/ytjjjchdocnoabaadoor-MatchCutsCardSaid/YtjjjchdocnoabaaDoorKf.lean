
/-
  The walk of MatchFinds, over what Find, Expand and Same do (Prg).
-/
import Derived.Test.YtjjjchdocnoabaaDoorKe
namespace Go.Proofs.YtjjjchdocnoabaaDoor
open Go.RowKit
set_option maxRecDepth 100000

/-- Is there a copy among the first tokens? -/
def anyC (r : List M.Tok) (i : Nat) : Bool := (r.take i).any fun t => decide (0 < t.len)
theorem anyC_zero (r : List M.Tok) : anyC r 0 = false := by simp [anyC]
theorem anyC_step (r : List M.Tok) (i : Nat) (h : i < r.length) : anyC r (i + 1) = (anyC r i || decide (0 < (tk r i).len)) := by
  unfold anyC
  rw [tk_take r i h, List.any_append]
  simp
theorem anyC_all (r : List M.Tok) : anyC r r.length = true ↔ ∃ t ∈ r, t.len ≠ 0 := by
  unfold anyC
  rw [List.take_length, List.any_eq_true]
  constructor
  · rintro ⟨t, ht, h⟩; exact ⟨t, ht, by have := of_decide_eq_true h; omega⟩
  · rintro ⟨t, ht, h⟩; exact ⟨t, ht, decide_eq_true (by omega)⟩

theorem finds_long {Tb : World → Prop} (P : Prg Tb) (ao : Option Addr) (L c : Nat) (a1 : Int) (w : World) (hT : Tb w) (hL : L ≤ 9223372036854775807) (hl : 1500 < L) :
    Calls Tryd.prog 3 #[.slice ao L c, .int .i64 a1] w fun e w' => e = .returned (.bool true) ∧ Below w.heap.size w w' := by
  have HA := Lib.hid (alive7_any P w hT)
  have hl' : (1500 : Int) < L := by omega
  clear hT hl P
  go_enter Tryd.func3, Tryd.ntmps3
  go_wp2_with fail
  refine HA.out.mono ?_
  rintro e w1 ⟨rfl, hb1⟩
  have HB := Lib.hid hb1
  clear hb1
  go_wp2
  go_ret
  exact ⟨rfl, HB.out⟩

set_option maxHeartbeats 6400000 in
theorem finds_walk {Tb : World → Prop} (P : Prg Tb) (ao : Option Addr) (c : Nat) (xs : List Nat) (a1 : Int) (w : World) (hT : Tb w) (h : BySl w (.slice ao xs.length c) xs) (hb : Bs xs) (hl : xs.length ≤ 1500) :
    Calls Tryd.prog 3 #[.slice ao xs.length c, .int .i64 a1] w fun e w' => e = .returned (.bool true) ∧ Below w.heap.size w w' := by
  have HA := Lib.hid (alive7_any P w hT)
  have HP := Lib.hid P
  have HT := Lib.hid hT
  have HB := Lib.hid hb
  have HS := Lib.hid h
  obtain ⟨L, hL⟩ : ∃ L, L = xs.length := ⟨_, rfl⟩
  have HL := Lib.hid hL
  rw [← hL] at hl HS ⊢
  have d1 : decide ((1500 : Int) < L) = false := by simp; omega
  have d2 : decide (1500 < L) = false := by simp; omega
  clear hL h hb hT P
  go_enter Tryd.func3, Tryd.ntmps3
  go_wp2_with fail
  refine HA.out.mono ?_
  rintro e w1 ⟨rfl, hb1⟩
  have B1 := Lib.hid hb1
  have S1 := Lib.hid (by_on HS.out hb1)
  clear hb1 HA HS
  go_wp2_with fail
  have hC := copy7_any S1.out (by rw [← HL.out]; omega)
  rw [← HL.out] at hC
  refine hC.mono ?_
  clear hC
  rintro e w2 ⟨ao2, c2, rfl, hown, hb2⟩
  have B2 := Lib.hid (bel_on B1.out hb2)
  have S2 := Lib.hid (by_on S1.out hb2)
  have O2 : Hid (BySl w2 (.slice ao2 L c2) xs) := Lib.hid (BySl.own (by rw [← HL.out]; exact hown))
  clear hb2 hown S1 B1
  go_wp2_with fail
  refine (HP.out.find _ _ xs a1 (HP.out.keep HT.out B2.out) O2.out HB.out (by rw [← HL.out]; omega)).mono ?_
  rintro e w3 ⟨ao3, c3, r, rfl, hks, hb3, _, hex, h8, hz, hor⟩
  have B3 := Lib.hid (bel_on B2.out hb3)
  have S3 := Lib.hid (by_on S2.out hb3)
  have O3 := Lib.hid (by_on O2.out hb3)
  have K3 := Lib.hid hks
  have HEX := Lib.hid (And.intro hex h8)
  have HZ := Lib.hid hz
  have HOR := Lib.hid hor
  have hfew := few_of hex
  rw [← HL.out] at hfew
  obtain ⟨n, hn⟩ : ∃ n, n = r.length := ⟨_, rfl⟩
  have HN := Lib.hid hn
  rw [← hn] at hfew ⊢
  clear hn hks hb3 hex h8 hz hor S2 O2 B2
  go_wp2_with fail
  have hC := of_any ao3 c3 r w3 K3.out (by rw [← HN.out]; omega)
  rw [← HN.out] at hC
  refine hC.mono ?_
  clear hC
  rintro e w4 ⟨ao4, c4, rfl, hk4, hb4⟩
  have B4 := Lib.hid (bel_on B3.out hb4)
  have S4 := Lib.hid (by_on S3.out hb4)
  have O4 := Lib.hid (by_on O3.out hb4)
  have K4 := Lib.hid (K3.out.on hb4)
  have R4 := Lib.hid hk4
  clear hb4 hk4 S3 O3 B3 K3
  go_wp2_with fail
  have hC := rExpand_ok ao4 c4 r xs (L : Int) w4 R4.out (by rw [← HN.out]; omega) HEX.out.2 HEX.out.1 (by rw [← HL.out]; omega) (by omega)
  rw [← HN.out, ← HL.out] at hC
  refine hC.mono ?_
  clear hC
  rintro e w5 ⟨ao5, c5, rfl, ho5, hb5⟩
  have B5 := Lib.hid (bel_on B4.out hb5)
  have S5 := Lib.hid (by_on S4.out hb5)
  have O5 := Lib.hid (by_on O4.out hb5)
  have K5 := Lib.hid (K4.out.on hb5)
  have X5 : Hid (BySl w5 (.slice ao5 L c5) xs) := Lib.hid (BySl.own (by rw [← HL.out]; exact ho5))
  have d3 : decide ((L : Int) < n) = false := by simp; omega
  have d4 : decide (L < n) = false := by simp; omega
  clear hb5 ho5 S4 O4 B4 K4 R4
  go_wp2_with fail
  refine (same_any X5.out S5.out (by rw [← HL.out]; omega)).mono ?_
  rintro e w6 ⟨he, nq, hw⟩
  rw [decide_eq_true rfl] at he
  subst he
  have hb6 := below_drewN (Below.refl w5.heap.size w5) nq
  rw [← hw] at hb6
  have B6 := Lib.hid (bel_on B5.out hb6)
  have S6 := Lib.hid (by_on S5.out hb6)
  have O6 := Lib.hid (by_on O5.out hb6)
  have K6 := Lib.hid (K5.out.on hb6)
  clear hb6 hw S5 O5 B5 K5 X5
  go_wp2_with fail
  refine (same_any O6.out S6.out (by rw [← HL.out]; omega)).mono ?_
  rintro e w7 ⟨he, nq7, hw⟩
  rw [decide_eq_true rfl] at he
  subst he
  have hb7 := below_drewN (Below.refl w6.heap.size w6) nq7
  rw [← hw] at hb7
  have B7 := Lib.hid (bel_on B6.out hb7)
  have S7 := Lib.hid (by_on S6.out hb7)
  have K7 := Lib.hid (K6.out.on hb7)
  clear hb7 hw S6 O6 B6 K6
  go_wp2
  go_loopg [9, 10] (n + 1) (fun gm v9 v10 wr => ∃ i : Nat, i ≤ n ∧ n + 1 - i ≤ gm ∧ v9 = .bool (anyC r i) ∧ v10 = .int .i64 (i : Nat) ∧ wr = w7)
  case atStart => exact ⟨0, Nat.zero_le _, Nat.le_refl _, by rw [anyC_zero], rfl, rfl⟩
  case round =>
    obtain ⟨i, hi, hgm, rfl, rfl, rfl⟩ := hrel
    obtain ⟨b, hbe⟩ : ∃ b, b = anyC r i := ⟨_, rfl⟩
    have HBE := Lib.hid hbe.symm
    rw [← hbe]
    clear hbe
    by_cases hlt : i < n
    · have hlt' : (i : Int) < n := by omega
      have HST := Lib.hid (anyC_step r i (by rw [← HN.out]; exact hlt))
      obtain ⟨bb, off, rfl, _, g2, _⟩ := K7.out.at (k := i) (by rw [← HN.out]; exact hlt)
      obtain ⟨l, hle⟩ : ∃ l, l = (tk r i).len := ⟨_, rfl⟩
      rw [← hle] at g2 HST
      have e1 : IntKind.i64.wrap ((i : Int) * 3) = (i : Int) * 3 := by rw [IntKind.wrap_i64]; omega
      clear hle
      cases b
      · by_cases h0 : 0 < l
        · have h0' : (0 : Int) < l := by omega
          have HR : Hid (anyC r (i + 1) = true) := Lib.hid (by rw [HST.out, HBE.out]; simp; omega)
          clear h0
          go_wp2
          go_roundg (n + 1 - (i + 1))
          case measure => omega
          case rel => exact ⟨i + 1, by omega, Nat.le_refl _, by rw [HR.out]; first | done | (congr 1; simp; omega) | (congr 1; simp), by simp, by trivial⟩
        · have h0' : l = 0 := by omega
          subst h0'
          have HR : Hid (anyC r (i + 1) = false) := Lib.hid (by rw [HST.out, HBE.out]; simp)
          go_wp2
          go_roundg (n + 1 - (i + 1))
          case measure => omega
          case rel => exact ⟨i + 1, by omega, Nat.le_refl _, by rw [HR.out]; first | done | (congr 1; simp; omega) | (congr 1; simp), by simp, by trivial⟩
      · have HR : Hid (anyC r (i + 1) = true) := Lib.hid (by rw [HST.out, HBE.out]; simp)
        go_wp2
        go_roundg (n + 1 - (i + 1))
        case measure => omega
        case rel => exact ⟨i + 1, by omega, Nat.le_refl _, by rw [HR.out]; first | done | (congr 1; simp; omega) | (congr 1; simp), by simp, by trivial⟩
    · obtain rfl : i = n := by omega
      have HAL : Hid (b = true ↔ ∃ t ∈ r, t.len ≠ 0) := Lib.hid (by rw [← HBE.out, HN.out]; exact anyC_all r)
      clear HBE hlt
      by_cases hlev : a1 ≤ 0
      · obtain rfl : b = false := by
          cases b with
          | false => rfl
          | true =>
            obtain ⟨t, ht, h0⟩ := HAL.out.1 rfl
            exact absurd (HZ.out hlev t ht) h0
        go_wp2
        go_ret
        exact ⟨rfl, B7.out⟩
      · have hlev' : decide (a1 ≤ 0) = false := by simp; omega
        have HOR2 := Lib.hid (HOR.out (by omega))
        clear hlev
        cases b
        · have hno : M.NoFour xs := HOR2.out.resolve_left fun e => by have := HAL.out.2 e; cases this
          have HF := Lib.hid (rFirst_none ao c xs wr (by rw [← HL.out]; exact S7.out) (by rw [← HL.out]; omega) hno)
          rw [← HL.out] at HF
          clear hno
          go_wp2_with fail
          refine HF.out.mono ?_
          rintro e w8 ⟨rfl, nq8, rfl⟩
          clear HF
          go_wp2
          go_ret
          exact ⟨rfl, below_drewN B7.out _⟩
        · go_wp2
          go_ret
          exact ⟨rfl, B7.out⟩
end Go.Proofs.YtjjjchdocnoabaaDoor
