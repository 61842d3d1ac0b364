
/-
  The reference's Right, Same, First.
-/
import Derived.Test.YtjjjchdocnoabaaDoorKa
import Derived.Deep.LoopGhost
import Derived.StillTailTactics
namespace Go.Proofs.YtjjjchdocnoabaaDoor
open Go.RowKit
set_option maxRecDepth 100000

theorem by_shape {w : World} {v : Value} {xs : List Nat} (h : BySl w v xs) : ∃ ao c, v = .slice ao xs.length c := by
  rcases h with ⟨rfl, rfl⟩ | ⟨ad, c, rfl, _⟩
  · exact ⟨none, 0, rfl⟩
  · exact ⟨some ad, c, rfl⟩
theorem by_cell {w : World} {ao : Option Addr} {n c : Nat} {xs : List Nat} (h : BySl w (.slice ao n c) xs) (j : Nat) (hj : j < xs.length) : ∃ b off, ao = some ⟨b, off, none⟩ ∧ w.cell? ⟨b, off + j, none⟩ = some (.int .u8 (xs.getD j 0 : Nat)) := by
  obtain ⟨b, off, c', he, _, hc⟩ := h.at (by omega)
  simp only [Value.slice.injEq] at he
  exact ⟨b, off, he.1, hc j hj⟩
theorem by_on {w w' : World} {v : Value} {xs : List Nat} (h : BySl w v xs) (hb : Below w.heap.size w w') : BySl w' v xs := h.touch (Touch.of_below hb : Touch (fun _ => False) w w') fun _ _ e => e

/-- A token as a value. -/
abbrev tv (t : M.Tok) : Value := .agg #[.int .u8 (t.lit : Nat), .int .i64 (t.len : Nat), .int .i64 (t.dist : Nat)]
theorem rRight_any (t : M.Tok) (w : World) (h1 : t.lit < 256) (h2 : t.len ≤ 1000000) (h3 : t.dist ≤ 1000000) :
    Calls Tryd.prog 17 #[tv t] w fun e w' => e = .returned (.bool (decide (M.Right t))) ∧ Below w.heap.size w w' := by
  obtain ⟨a, b, d⟩ := t
  simp only at h1 h2 h3
  have B1 := Lib.hid ((Below.refl w.heap.size w).alloc (Nat.le_refl _) (.cells #[.int .u8 (a : Nat), .int .i64 (b : Nat), .int .i64 (d : Nat)] 51))
  have fin : ∀ (c : Bool), (M.Right ⟨a, b, d⟩ ↔ c = true) → decide (M.Right ⟨a, b, d⟩) = c := fun c hc => by cases c <;> simp [hc]
  have HF := Lib.hid fin
  clear fin
  by_cases c1 : b = 0
  · subst c1
    by_cases c2 : d = 0
    · subst c2
      rw [HF.out true (by simp [M.Right])]
      clear HF
      go_enter Tryd.func17, Tryd.ntmps17
      go_wp2
      go_ret
      exact ⟨rfl, B1.out⟩
    · have d2 : ((d : Int) == 0) = false := by simp; omega
      rw [HF.out false (by first | (simp [M.Right]; done) | (simp [M.Right]; omega))]
      clear HF c2
      go_enter Tryd.func17, Tryd.ntmps17
      go_wp2
      go_ret
      exact ⟨rfl, B1.out⟩
  · have d1 : ((b : Int) == 0) = false := by simp; omega
    by_cases c3 : 3 ≤ b
    · have d3 : (3 : Int) ≤ b := by omega
      by_cases c4 : b ≤ 258
      · have d4 : (b : Int) ≤ 258 := by omega
        by_cases c5 : 1 ≤ d
        · have d5 : (1 : Int) ≤ d := by omega
          by_cases c6 : d ≤ 32768
          · have d6 : (d : Int) ≤ 32768 := by omega
            by_cases c7 : a = 0
            · subst c7
              rw [HF.out true (by first | (simp [M.Right]; done) | (simp [M.Right]; omega))]
              clear HF c1 c3 c4 c5 c6
              go_enter Tryd.func17, Tryd.ntmps17
              go_wp2
              go_ret
              exact ⟨rfl, B1.out⟩
            · have d7 : ((a : Int) == 0) = false := by simp; omega
              rw [HF.out false (by first | (simp [M.Right]; done) | (simp [M.Right]; omega))]
              clear HF c1 c3 c4 c5 c6 c7
              go_enter Tryd.func17, Tryd.ntmps17
              go_wp2
              go_ret
              exact ⟨rfl, B1.out⟩
          · have d6 : decide ((d : Int) ≤ 32768) = false := by simp; omega
            have d6' : decide (d ≤ 32768) = false := by simp; omega
            rw [HF.out false (by first | (simp [M.Right]; done) | (simp [M.Right]; omega))]
            clear HF c1 c3 c4 c5 c6
            go_enter Tryd.func17, Tryd.ntmps17
            go_wp2
            go_ret
            exact ⟨rfl, B1.out⟩
        · have d5 : decide ((1 : Int) ≤ d) = false := by simp; omega
          have d5' : decide (1 ≤ d) = false := by simp; omega
          rw [HF.out false (by first | (simp [M.Right]; done) | (simp [M.Right]; omega))]
          clear HF c1 c3 c4 c5
          go_enter Tryd.func17, Tryd.ntmps17
          go_wp2
          go_ret
          exact ⟨rfl, B1.out⟩
      · have d4 : decide ((b : Int) ≤ 258) = false := by simp; omega
        have d4' : decide (b ≤ 258) = false := by simp; omega
        rw [HF.out false (by first | (simp [M.Right]; done) | (simp [M.Right]; omega))]
        clear HF c1 c3 c4
        go_enter Tryd.func17, Tryd.ntmps17
        go_wp2
        go_ret
        exact ⟨rfl, B1.out⟩
    · have d3 : decide ((3 : Int) ≤ b) = false := by simp; omega
      have d3' : decide (3 ≤ b) = false := by simp; omega
      rw [HF.out false (by first | (simp [M.Right]; done) | (simp [M.Right]; omega))]
      clear HF c1 c3
      go_enter Tryd.func17, Tryd.ntmps17
      go_wp2
      go_ret
      exact ⟨rfl, B1.out⟩

theorem same_step {b : List Nat} {at_ dist n most : Nat} (hd : 1 ≤ dist) (hda : dist ≤ at_) (hn : n < most) (hl : at_ + n < b.length) (he : b.getD (at_ + n) 0 = b.getD (at_ + n - dist) 0) :
    M.same b (at_ + n) dist (most - n) = 1 + M.same b (at_ + (n + 1)) dist (most - (n + 1)) := by
  rw [show most - n = (most - (n + 1)) + 1 by omega, M.same, if_pos ⟨hl, hd, by omega, he⟩, Nat.add_assoc]
theorem same_stop {b : List Nat} {at_ dist n most : Nat} (h : ¬ (n < most ∧ at_ + n < b.length ∧ b.getD (at_ + n) 0 = b.getD (at_ + n - dist) 0)) :
    M.same b (at_ + n) dist (most - n) = 0 := by
  by_cases hn : n < most
  · rw [show most - n = (most - (n + 1)) + 1 by omega, M.same, if_neg (fun e => h ⟨hn, e.1, e.2.2.2⟩)]
  · rw [show most - n = 0 by omega]; rfl

set_option maxHeartbeats 1600000 in
theorem rSame_any (ao : Option Addr) (c : Nat) (bs : List Nat) (at_ dist most : Nat) (w : World) (h : BySl w (.slice ao bs.length c) bs) (hl : bs.length ≤ 1000000) (ha : at_ < bs.length) (h1 : 1 ≤ dist) (h2 : dist ≤ at_) (hm : most ≤ 1000000) :
    Calls Tryd.prog 18 #[.slice ao bs.length c, .int .i64 at_, .int .i64 dist, .int .i64 most] w fun e w' => e = .returned (.int .i64 (M.same bs at_ dist most : Nat)) ∧ ∃ q, w' = w.drewN q := by
  have HS := Lib.hid h
  have HB := Lib.hid (And.intro h1 h2)
  have HST := Lib.hid fun n hn hl he => same_step (b := bs) (at_ := at_) (dist := dist) (n := n) (most := most) h1 h2 hn hl he
  have HSP := Lib.hid fun n hn => same_stop (b := bs) (at_ := at_) (dist := dist) (n := n) (most := most) hn
  obtain ⟨L, hL⟩ : ∃ L, L = bs.length := ⟨_, rfl⟩
  have HL := Lib.hid hL
  obtain ⟨S, hS⟩ : ∃ S, S = M.same bs at_ dist most := ⟨_, rfl⟩
  have HSM : Hid (S = 0 + M.same bs (at_ + 0) dist (most - 0)) := Lib.hid (by rw [hS]; simp)
  rw [← hS]
  rw [← hL] at hl ha ⊢
  have ha' : (at_ : Int) < L := by omega
  have hge : decide ((L : Int) ≤ at_) = false := by simp; omega
  have hge' : decide (L ≤ at_) = false := by simp; omega
  have h1' : (1 : Int) ≤ dist := by omega
  have h2' : (dist : Int) ≤ at_ := by omega
  have d1 : decide ((dist : Int) < 1) = false := by simp; omega
  have d2 : decide ((at_ : Int) < dist) = false := by simp; omega
  have d2' : decide (at_ < dist) = false := by simp; omega
  have d3 : decide ((at_ : Int) < 0) = false := by simp
  clear h hL hS
  go_enter Tryd.func18, Tryd.ntmps18
  go_wp2
  go_loopg [9] (most + 1) (fun gm v9 wr => ∃ n q : Nat, n ≤ most ∧ most + 1 - n ≤ gm ∧ at_ + n ≤ L ∧ v9 = .int .i64 (n : Nat) ∧ wr = w.drewN q ∧ Hid (S = n + M.same bs (at_ + n) dist (most - n)))
  case atStart => exact ⟨0, 0, Nat.zero_le _, by omega, by omega, rfl, rfl, HSM⟩
  case round =>
    clear HSM
    obtain ⟨n, q, hn, hgm, hnl, rfl, rfl, HS1⟩ := hrel
    by_cases c1 : n < most
    · have c1' : (n : Int) < most := by omega
      by_cases c2 : at_ + n < L
      · have c2' : (at_ : Int) + n < L := by omega
        obtain ⟨b1, off, rfl, g1⟩ := by_cell HS.out (at_ + n) (by rw [← HL.out]; exact c2)
        obtain ⟨b2, off2, he, g2⟩ := by_cell HS.out (at_ + n - dist) (by rw [← HL.out]; omega)
        simp only [Option.some.injEq, Addr.mk.injEq, and_true] at he
        obtain ⟨rfl, rfl⟩ := he
        obtain ⟨x, hx⟩ : ∃ x, x = bs.getD (at_ + n) 0 := ⟨_, rfl⟩
        obtain ⟨y, hy⟩ : ∃ y, y = bs.getD (at_ + n - dist) 0 := ⟨_, rfl⟩
        rw [← hx] at g1
        rw [← hy] at g2
        obtain ⟨k, hk⟩ : ∃ k, k = at_ + n - dist := ⟨_, rfl⟩
        rw [← hk] at g2
        have e1 : IntKind.i64.wrap ((at_ : Int) + n) = (at_ : Int) + n := by rw [IntKind.wrap_i64]; omega
        have e2 : (0 : Int) ≤ (at_ : Int) + n := by omega
        have e3 : ((at_ : Int) + n).toNat = at_ + n := by omega
        have e4 : (at_ : Int) + n - dist = (k : Int) := by omega
        have e5 : IntKind.i64.wrap ((at_ : Int) + n - dist) = (k : Int) := by rw [IntKind.wrap_i64]; omega
        have e6 : (k : Int) < L := by omega
        have HXY := Lib.hid (And.intro hx hy)
        clear hx hy hk
        by_cases hxy : x = y
        · subst hxy
          have dxy : ((x : Int) == x) = true := by simp
          go_wp2
          go_quiet (fail)
          go_wp2
          go_roundg (most + 1 - (n + 1))
          case measure => omega
          case rel =>
            refine ⟨n + 1, _, by omega, Nat.le_refl _, by omega, by simp, rfl, Lib.hid ?_⟩
            rw [HS1.out, HST.out n c1 (by rw [← HL.out]; exact c2) (by rw [← HXY.out.1, ← HXY.out.2])]
            omega
        · have dxy : ((x : Int) == y) = false := by simp; omega
          have HE : Hid (S = n) := Lib.hid (by rw [HS1.out, HSP.out n (fun e => hxy (by rw [HXY.out.1, HXY.out.2]; exact e.2.2))]; rfl)
          clear hxy
          go_wp2
          go_quiet (fail)
          go_wp2
          go_ret
          exact ⟨by obtain rfl := HE.out; rfl, _, World.drewN_drewN _ _ _⟩
      · have c2' : decide ((at_ : Int) + n < L) = false := by simp; omega
        have c2'' : decide (at_ + n < L) = false := by simp; omega
        have HE : Hid (S = n) := Lib.hid (by rw [HS1.out, HSP.out n (fun e => c2 (by rw [HL.out]; exact e.2.1))]; rfl)
        clear c2
        go_wp2
        go_quiet (fail)
        go_wp2
        go_ret
        exact ⟨by obtain rfl := HE.out; rfl, _, World.drewN_drewN _ _ _⟩
    · have c1' : decide ((n : Int) < most) = false := by simp; omega
      have c1'' : decide (n < most) = false := by simp; omega
      have HE : Hid (S = n) := Lib.hid (by rw [HS1.out, HSP.out n (fun e => c1 e.1)]; rfl)
      clear c1
      go_wp2
      go_quiet (fail)
      go_wp2
      go_ret
      exact ⟨by obtain rfl := HE.out; rfl, _, World.drewN_drewN _ _ _⟩

theorem same_four {b : List Nat} {at_ d : Nat} (h : M.same b at_ d 4 = 4) (hl : at_ + 4 ≤ b.length) : M.four b at_ d := by
  have k := fun j (hj : j < 4) => M.same_at b d 4 at_ j (by omega)
  exact ⟨hl, (k 0 (by omega)).2.1, (k 0 (by omega)).2.2, fun j hj => (k j hj).1⟩
/-- First, where there is no such place. -/
theorem rFirst_none (ao : Option Addr) (c : Nat) (bs : List Nat) (w : World) (h : BySl w (.slice ao bs.length c) bs) (hl : bs.length ≤ 1000000) (hno : M.NoFour bs) :
    Calls Tryd.prog 12 #[.slice ao bs.length c] w fun e w' => e = .returned (.int .i64 (-1)) ∧ ∃ q, w' = w.drewN q := by
  have HC := Lib.hid fun (at_ d : Nat) (q : Nat) (ha : at_ + 4 ≤ bs.length) (h1 : 1 ≤ d) (h2 : d ≤ at_) => rSame_any ao c bs at_ d 4 (w.drewN q) (by_on h (below_drewN (Below.refl _ _) q)) hl (by omega) h1 h2 (by omega)
  have HN := Lib.hid fun (at_ d : Nat) (ha : at_ + 4 ≤ bs.length) (hd : d ≤ 32768) => (show M.same bs at_ d 4 ≠ 4 from fun e => hno at_ d hd (same_four e ha))
  have HLE := Lib.hid fun (at_ d : Nat) => M.same_le bs d 4 at_
  obtain ⟨L, hL⟩ : ∃ L, L = bs.length := ⟨_, rfl⟩
  rw [← hL] at HC HN hl ⊢
  clear h hno hL
  go_enter Tryd.func12, Tryd.ntmps12
  go_wp2
  go_loopg [3] (L + 1) (fun gm v3 wr => ∃ at_ q : Nat, 1 ≤ at_ ∧ L + 1 - at_ ≤ gm ∧ at_ ≤ L + 1 ∧ v3 = .int .i64 (at_ : Nat) ∧ wr = w.drewN q)
  case atStart => exact ⟨1, 0, by omega, by omega, by omega, rfl, rfl⟩
  case round =>
    obtain ⟨at_, q, ha1, hgm, haL, rfl, rfl⟩ := hrel
    by_cases c1 : at_ + 4 ≤ L
    · have c1' : (at_ : Int) + 4 ≤ L := by omega
      go_wp2
      go_loopg [4] (at_ + 2) (fun gm v4 wr => ∃ d q : Nat, 1 ≤ d ∧ at_ + 2 - d ≤ gm ∧ d ≤ at_ + 1 ∧ v4 = .int .i64 (d : Nat) ∧ wr = w.drewN q)
      case atStart => exact ⟨1, q, by omega, by omega, by omega, rfl, rfl⟩
      case round =>
        obtain ⟨d, q2, hd1, hgd, hda, rfl, rfl⟩ := hrel
        by_cases c2 : d ≤ at_
        · have c2' : (d : Int) ≤ at_ := by omega
          by_cases c3 : d ≤ 32768
          · have c3' : (d : Int) ≤ 32768 := by omega
            obtain ⟨x, hx⟩ : ∃ x, x = M.same bs at_ d 4 := ⟨_, rfl⟩
            have hx4 : ((x : Int) == 4) = false := by have := HN.out at_ d c1 c3; rw [← hx] at this; simp; omega
            have hx4' : (x == 4) = false := by have := HN.out at_ d c1 c3; rw [← hx] at this; simp; omega
            have hxb : x ≤ 4 := by rw [hx]; exact HLE.out at_ d
            have HC2 := Lib.hid (HC.out at_ d q2 c1 hd1 c2)
            rw [← hx] at HC2
            clear hx
            go_wp2_with fail
            refine HC2.out.mono ?_
            rintro e w3 ⟨rfl, q3, rfl⟩
            clear HC2
            go_wp2
            go_roundg (at_ + 2 - (d + 1))
            case measure => omega
            case rel => exact ⟨d + 1, _, by omega, Nat.le_refl _, by omega, by simp, rfl⟩
          · have c3' : decide ((d : Int) ≤ 32768) = false := by simp; omega
            have c3'' : decide (d ≤ 32768) = false := by simp; omega
            clear c3
            go_wp2
            go_roundg (L + 1 - (at_ + 1))
            case measure => omega
            case rel => exact ⟨at_ + 1, q2, by omega, Nat.le_refl _, by omega, by simp, rfl⟩
        · have c2' : decide ((d : Int) ≤ at_) = false := by simp; omega
          have c2'' : decide (d ≤ at_) = false := by simp; omega
          clear c2
          go_wp2
          go_roundg (L + 1 - (at_ + 1))
          case measure => omega
          case rel => exact ⟨at_ + 1, q2, by omega, Nat.le_refl _, by omega, by simp, rfl⟩
    · have c1' : decide ((at_ : Int) + 4 ≤ L) = false := by simp; omega
      have c1'' : decide (at_ + 4 ≤ L) = false := by simp; omega
      clear c1
      go_wp2
      go_ret
      exact ⟨rfl, _, rfl⟩
end Go.Proofs.YtjjjchdocnoabaaDoor
