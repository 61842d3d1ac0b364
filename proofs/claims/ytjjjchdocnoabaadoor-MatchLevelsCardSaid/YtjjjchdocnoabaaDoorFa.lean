/-
  The program's Same, isToken, span.
-/
import Derived.Test.YtjjjchdocnoabaaDoorKb
namespace Go.Proofs.YtjjjchdocnoabaaDoor
open Go.RowKit
set_option maxRecDepth 100000

theorem pSame_stop {b : List Nat} {at_ dist n most : Nat} (_hm : most ≤ b.length - at_) (h : ¬ (n < most ∧ b.getD (at_ + n) 0 = b.getD (at_ + n - dist) 0)) : M.same b (at_ + n) dist (most - n) = 0 :=
  same_stop fun e => h ⟨e.1, e.2.2⟩
theorem same_cut (b : List Nat) (dist : Nat) : ∀ most at_, M.same b at_ dist (min most (b.length - at_)) = M.same b at_ dist most := by
  intro most
  induction most with
  | zero => intro at_; rw [Nat.zero_min]
  | succ m ih =>
    intro at_
    by_cases h : at_ < b.length
    · rw [show min (m + 1) (b.length - at_) = min m (b.length - (at_ + 1)) + 1 by omega, M.same, M.same, ih]
    · rw [show min (m + 1) (b.length - at_) = 0 by omega, M.same, M.same, if_neg (fun e => h e.1)]

set_option maxHeartbeats 1600000 in
theorem pSame_some (ao : Option Addr) (c : Nat) (bs : List Nat) (at_ dist most : Nat) (w : World) (h : BySl w (.slice ao bs.length c) bs) (hl : bs.length ≤ 1000000) (ha : at_ < bs.length) (h1 : 1 ≤ dist) (h2 : dist ≤ at_) (_hm : most ≤ 1000000) :
    Calls Tryd.prog 14 #[.slice ao bs.length c, .int .i64 at_, .int .i64 dist, .int .i64 most] w fun e w' => e = .returned (.int .i64 (M.same bs at_ dist most : Nat)) ∧ ∃ q, w' = w.drewN q := by
  have HS := Lib.hid h
  obtain ⟨mo, hmo⟩ : ∃ mo, mo = min most (bs.length - at_) := ⟨_, rfl⟩
  have hsm := same_cut bs dist most at_
  rw [← hmo] at hsm
  have HST := Lib.hid fun n hn hl he => same_step (b := bs) (at_ := at_) (dist := dist) (n := n) (most := mo) h1 h2 hn hl he
  have HSP := Lib.hid fun n hn => pSame_stop (b := bs) (at_ := at_) (dist := dist) (n := n) (most := mo) (by omega) hn
  obtain ⟨L, hL⟩ : ∃ L, L = bs.length := ⟨_, rfl⟩
  have HL := Lib.hid hL
  obtain ⟨S, hS⟩ : ∃ S, S = M.same bs at_ dist most := ⟨_, rfl⟩
  have HSM : Hid (S = 0 + M.same bs (at_ + 0) dist (mo - 0)) := Lib.hid (by rw [hS, ← hsm]; simp)
  rw [← hS]
  rw [← hL] at hl ha hmo ⊢
  have hmb : mo ≤ L - at_ := by omega
  have ha' : (at_ : Int) < L := by omega
  have hge : decide ((L : Int) ≤ at_) = false := by simp; omega
  have hge' : decide (L ≤ at_) = false := by simp; omega
  have h1' : (1 : Int) ≤ dist := by omega
  have h2' : (dist : Int) ≤ at_ := by omega
  have d1 : decide ((dist : Int) < 1) = false := by simp; omega
  have d2 : decide ((at_ : Int) < dist) = false := by simp; omega
  have d2' : decide (at_ < dist) = false := by simp; omega
  have d3 : decide ((at_ : Int) < 0) = false := by simp
  have e0 : IntKind.i64.wrap ((L : Int) - at_) = ((L - at_ : Nat) : Int) := by rw [IntKind.wrap_i64]; omega
  have hcm : min (most : Int) ((L - at_ : Nat) : Int) = (mo : Int) := by omega
  have HCM := Lib.hid hcm
  have HMO := Lib.hid hmo
  clear h hL hS hsm hmo hcm
  go_enter Tryd.func14, Tryd.ntmps14
  go_upto_region 3 with fail
  go_cut [3] from 33 (fun s3 wx => s3 = .int .i64 (mo : Nat) ∧ wx = w)
  case first =>
    go_wp2
    all_goals
      have hcm := HCM.out
      go_meet
      case rel => exact ⟨by first | rfl | (congr 1; omega), rfl⟩
  case rest =>
  obtain ⟨rfl, hwx⟩ := hcut
  rw [hwx]
  go_wp2
  go_loopg [9] (mo + 1) (fun gm v9 wr => ∃ n q : Nat, n ≤ mo ∧ mo + 1 - n ≤ gm ∧ v9 = .int .i64 (n : Nat) ∧ wr = w.drewN q ∧ Hid (S = n + M.same bs (at_ + n) dist (mo - n)))
  case atStart => exact ⟨0, 0, Nat.zero_le _, by omega, rfl, rfl, HSM⟩
  case round =>
    clear HSM
    obtain ⟨n, q, hn, hgm, rfl, rfl, HS1⟩ := hrel
    by_cases c1 : n < mo
    · have c1' : (n : Int) < mo := by omega
      have c2 : at_ + n < L := by omega
      have c2' : (at_ : Int) + n < L := by omega
      obtain ⟨b1, off, rfl, g1⟩ := by_cell HS.out (at_ + n) (by rw [← HL.out]; exact c2)
      obtain ⟨b2, off2, he, g2⟩ := by_cell HS.out (at_ + n - dist) (by rw [← HL.out]; omega)
      simp only [Option.some.injEq, Addr.mk.injEq, and_true] at he
      obtain ⟨rfl, rfl⟩ := he
      obtain ⟨x, hx⟩ : ∃ x, x = bs.getD (at_ + n) 0 := ⟨_, rfl⟩
      obtain ⟨y, hy⟩ : ∃ y, y = bs.getD (at_ + n - dist) 0 := ⟨_, rfl⟩
      rw [← hx] at g1
      rw [← hy] at g2
      obtain ⟨k, hk⟩ : ∃ k, k = at_ + n - dist := ⟨_, rfl⟩
      rw [← hk] at g2
      have e1 : IntKind.i64.wrap ((at_ : Int) + n) = (at_ : Int) + n := by rw [IntKind.wrap_i64]; omega
      have e2 : (0 : Int) ≤ (at_ : Int) + n := by omega
      have e3 : ((at_ : Int) + n).toNat = at_ + n := by omega
      have e4 : (at_ : Int) + n - dist = (k : Int) := by omega
      have e5 : IntKind.i64.wrap ((at_ : Int) + n - dist) = (k : Int) := by rw [IntKind.wrap_i64]; omega
      have e6 : (k : Int) < L := by omega
      have HXY := Lib.hid (And.intro hx hy)
      clear hx hy hk
      by_cases hxy : x = y
      · subst hxy
        have dxy : ((x : Int) == x) = true := by simp
        go_wp2
        go_quiet (fail)
        go_wp2
        go_roundg (mo + 1 - (n + 1))
        case measure => omega
        case rel =>
          refine ⟨n + 1, _, by omega, Nat.le_refl _, by simp, rfl, Lib.hid ?_⟩
          rw [HS1.out, HST.out n c1 (by rw [← HL.out]; exact c2) (by rw [← HXY.out.1, ← HXY.out.2])]
          omega
      · have dxy : ((x : Int) == y) = false := by simp; omega
        have HE : Hid (S = n) := Lib.hid (by rw [HS1.out, HSP.out n (fun e => hxy (by rw [HXY.out.1, HXY.out.2]; exact e.2))]; rfl)
        clear hxy
        go_wp2
        go_quiet (fail)
        go_wp2
        go_ret
        exact ⟨by obtain rfl := HE.out; rfl, _, World.drewN_drewN _ _ _⟩
    · have c1' : decide ((n : Int) < mo) = false := by simp; omega
      have c1'' : decide (n < mo) = false := by simp; omega
      have HE : Hid (S = n) := Lib.hid (by rw [HS1.out, HSP.out n (fun e => c1 e.1)]; rfl)
      clear c1
      go_wp2
      go_quiet (fail)
      go_wp2
      go_ret
      exact ⟨by obtain rfl := HE.out; rfl, _, World.drewN_drewN _ _ _⟩
theorem pSame_any (w : World) (v : Value) (bs : List Nat) (at_ dist most : Nat) (h : BySl w v bs) (hl : bs.length ≤ 1000000) (ha : at_ < bs.length) (h1 : 1 ≤ dist) (h2 : dist ≤ at_) (_hm : most ≤ 1000000) :
    Calls Tryd.prog 14 #[v, .int .i64 at_, .int .i64 dist, .int .i64 most] w fun e w' => e = .returned (.int .i64 (M.same bs at_ dist most : Nat)) ∧ ∃ q, w' = w.drewN q := by
  obtain ⟨ao, c, rfl⟩ := by_shape h
  exact pSame_some ao c bs at_ dist most w h hl ha h1 h2 _hm

/-- isToken, of whatever token that fits its fields. -/
theorem isToken_any (t : M.Tok) (w : World) (h1 : t.lit < 256) (h2 : t.len ≤ 1000000) (h3 : t.dist ≤ 1000000) :
    Calls Tryd.prog 19 #[tv t] w fun e w' => e = .returned (.bool (decide (M.Right t))) ∧ Below w.heap.size w w' := by
  obtain ⟨a, b, d⟩ := t
  simp only at h1 h2 h3
  have B1 := Lib.hid ((Below.refl w.heap.size w).alloc (Nat.le_refl _) (.cells #[.int .u8 (a : Nat), .int .i64 (b : Nat), .int .i64 (d : Nat)] 34))
  have fin : ∀ (c : Bool), (M.Right ⟨a, b, d⟩ ↔ c = true) → decide (M.Right ⟨a, b, d⟩) = c := fun c hc => by cases c <;> simp [hc]
  have HF := Lib.hid fin
  clear fin
  by_cases c1 : b = 0
  · subst c1
    by_cases c2 : d = 0
    · subst c2
      rw [HF.out true (by simp [M.Right])]
      clear HF
      go_enter Tryd.func19, Tryd.ntmps19
      go_wp2
      go_ret
      exact ⟨rfl, B1.out⟩
    · have d2 : ((d : Int) == 0) = false := by simp; omega
      rw [HF.out false (by first | (simp [M.Right]; done) | (simp [M.Right]; omega))]
      clear HF c2
      go_enter Tryd.func19, Tryd.ntmps19
      go_wp2
      go_ret
      exact ⟨rfl, B1.out⟩
  · have d1 : ((b : Int) == 0) = false := by simp; omega
    by_cases c7 : a = 0
    · subst c7
      by_cases c3 : 3 ≤ b
      · have d3 : (3 : Int) ≤ b := by omega
        by_cases c4 : b ≤ 258
        · have d4 : (b : Int) ≤ 258 := by omega
          by_cases c5 : 1 ≤ d
          · have d5 : (1 : Int) ≤ d := by omega
            by_cases c6 : d ≤ 32768
            · have d6 : (d : Int) ≤ 32768 := by omega
              rw [HF.out true (by first | (simp [M.Right]; done) | (simp [M.Right]; omega))]
              clear HF c1 c3 c4 c5 c6
              go_enter Tryd.func19, Tryd.ntmps19
              go_wp2
              go_ret
              exact ⟨rfl, B1.out⟩
            · have d6 : decide ((d : Int) ≤ 32768) = false := by simp; omega
              have d6' : decide (d ≤ 32768) = false := by simp; omega
              rw [HF.out false (by first | (simp [M.Right]; done) | (simp [M.Right]; omega))]
              clear HF c1 c3 c4 c5 c6
              go_enter Tryd.func19, Tryd.ntmps19
              go_wp2
              go_ret
              exact ⟨rfl, B1.out⟩
          · have d5 : decide ((1 : Int) ≤ d) = false := by simp; omega
            have d5' : decide (1 ≤ d) = false := by simp; omega
            rw [HF.out false (by first | (simp [M.Right]; done) | (simp [M.Right]; omega))]
            clear HF c1 c3 c4 c5
            go_enter Tryd.func19, Tryd.ntmps19
            go_wp2
            go_ret
            exact ⟨rfl, B1.out⟩
        · have d4 : decide ((b : Int) ≤ 258) = false := by simp; omega
          have d4' : decide (b ≤ 258) = false := by simp; omega
          rw [HF.out false (by first | (simp [M.Right]; done) | (simp [M.Right]; omega))]
          clear HF c1 c3 c4
          go_enter Tryd.func19, Tryd.ntmps19
          go_wp2
          go_ret
          exact ⟨rfl, B1.out⟩
      · have d3 : decide ((3 : Int) ≤ b) = false := by simp; omega
        have d3' : decide (3 ≤ b) = false := by simp; omega
        rw [HF.out false (by first | (simp [M.Right]; done) | (simp [M.Right]; omega))]
        clear HF c1 c3
        go_enter Tryd.func19, Tryd.ntmps19
        go_wp2
        go_ret
        exact ⟨rfl, B1.out⟩
    · have d7 : ((a : Int) == 0) = false := by simp; omega
      rw [HF.out false (by first | (simp [M.Right]; done) | (simp [M.Right]; omega))]
      clear HF c1 c7
      go_enter Tryd.func19, Tryd.ntmps19
      go_wp2
      go_ret
      exact ⟨rfl, B1.out⟩
theorem span_any (t : M.Tok) (w : World) (h2 : t.len ≤ 1000000) :
    Calls Tryd.prog 20 #[tv t] w fun e w' => e = .returned (.int .i64 (M.tells t : Nat)) ∧ Below w.heap.size w w' := by
  obtain ⟨a, b, d⟩ := t
  simp only at h2
  have B1 := Lib.hid ((Below.refl w.heap.size w).alloc (Nat.le_refl _) (.cells #[.int .u8 (a : Nat), .int .i64 (b : Nat), .int .i64 (d : Nat)] 34))
  obtain ⟨T, hT⟩ : ∃ T, T = M.tells ⟨a, b, d⟩ := ⟨_, rfl⟩
  have HT := Lib.hid (show max (b : Int) 1 = (T : Int) by rw [hT]; unfold M.tells; simp only; omega)
  rw [← hT]
  clear hT
  go_enter Tryd.func20, Tryd.ntmps20
  have hm := HT.out
  go_wp2
  all_goals
    go_ret
    exact ⟨by first | rfl | (congr 2; omega) | (simp; omega), B1.out⟩
end Go.Proofs.YtjjjchdocnoabaaDoor
