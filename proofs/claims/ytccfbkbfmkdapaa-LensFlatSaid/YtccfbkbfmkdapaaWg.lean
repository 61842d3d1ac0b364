/-
  The walk of LensFlat.
-/
import Derived.Test.YtccfbkbfmkdapaaWf
namespace Go.Proofs.Ytccfbkbfmkdapaa
open Go.RowKit
theorem wrap_u (n : Nat) (h : n ≤ 100) : IntKind.u64.wrap (n : Int) = n := by
  simp [IntKind.wrap, IntKind.bits, IntKind.signed]; omega
theorem flat_end (k lo hi : Nat) (g1 : hi ≤ lo + 1) (g2 : 2 ^ lo ≤ k) (g3 : k ≤ 2 ^ hi) (g4 : hi ≤ 15) (g5 : lo ≤ hi) : ∃ pl ph : Nat, wrap64 ((hi : Int) - lo) = (hi : Int) - lo ∧ IntKind.u64.wrap (lo : Int) = lo ∧ IntKind.u64.wrap (hi : Int) = hi ∧ min lo 64 = lo ∧ min hi 64 = hi ∧ wrap64 ((2 : Int) ^ lo) = pl ∧ wrap64 ((2 : Int) ^ hi) = ph ∧ (hi : Int) - lo ≤ 1 ∧ (pl : Int) ≤ k ∧ (k : Int) ≤ ph := by
  have hw : ∀ n : Nat, n ≤ 15 → wrap64 ((2 : Int) ^ n) = (2 ^ n : Nat) := fun n hn => by
    have hp : 2 ^ n ≤ 32768 := Nat.pow_le_pow_right (n := 2) (by omega) (show n ≤ 15 by omega)
    have e : ((2 : Int) ^ n) = (2 ^ n : Nat) := by simp
    rw [e]
    generalize 2 ^ n = p at hp ⊢
    rw [wrap64]; omega
  have h1 : wrap64 ((hi : Int) - lo) = (hi : Int) - lo := by clear g2 g3; rw [wrap64]; omega
  have h8 : (hi : Int) - lo ≤ 1 := by clear g2 g3; omega
  exact ⟨2 ^ lo, 2 ^ hi, h1, wrap_u lo (Nat.le_trans (Nat.le_trans g5 g4) (by decide)), wrap_u hi (Nat.le_trans g4 (by decide)), Nat.min_eq_left (Nat.le_trans (Nat.le_trans g5 g4) (by decide)), Nat.min_eq_left (Nat.le_trans g4 (by decide)), hw lo (Nat.le_trans g5 g4), hw hi g4, h8, Int.ofNat_le.2 g2, Int.ofNat_le.2 g3⟩
set_option maxHeartbeats 4000000 in
set_option maxRecDepth 100000 in
theorem flat_in (M C lim : Nat) (w : World) (h1 : 2 ≤ M) (h2 : M ≤ 300) (h3 : 1 ≤ C) (h4 : C ≤ 1073741824) (h5 : 9 ≤ lim) (h6 : lim ≤ 15) :
    Calls Try.prog 7 #[.int .i64 M, .int .i64 C, .int .i64 lim] w fun e w' => e = .returned (.bool true) ∧ Below w.heap.size w w' := by
  have d1 : decide ((M : Int) < 2) = false := decide_eq_false (by omega)
  have d2 : decide ((300 : Int) < M) = false := decide_eq_false (by omega)
  have d3 : decide ((C : Int) < 1) = false := decide_eq_false (by omega)
  have d4 : decide ((1073741824 : Int) < C) = false := decide_eq_false (by omega)
  have d5 : decide ((lim : Int) < 9) = false := decide_eq_false (by omega)
  have d6 : decide ((15 : Int) < lim) = false := decide_eq_false (by omega)
  have HC3 := Lib.hid (And.intro h3 h4)
  clear h3 h4
  go_enter Try.func7, Try.ntmps7
  go_wp2_with fail
  refine (alive_any w).mono ?_
  rintro e w1 ⟨rfl, hb1⟩
  have H0 : Hid (Rn w1 (List.replicate 0 (C : Int)) (.slice (some ⟨w1.heap.size, 0, none⟩) (0 : Nat) 0) (w1.alloc (.cells #[] 3))) := Lib.hid ⟨own_none w1 3 1, (Below.refl _ _).alloc (Nat.le_refl _) _⟩
  have HB := Lib.hid hb1
  clear hb1
  go_wp2
  clear d1 d2 d3 d4 d5 d6
  generalize w1.alloc (.cells #[] 3) = w2 at H0 ⊢
  generalize (⟨w1.heap.size, 0, none⟩ : Addr) = ad at H0 ⊢
  go_loopw [7, 8] (fun v7 kv wr => ∃ (k : Nat) (bo : Option Addr) (cu : Nat), v7 = .slice bo k cu ∧ kv = .int .i64 k ∧ k ≤ M ∧ Rn w1 (List.replicate k (C : Int)) (.slice bo k cu) wr) (fun _ kv _ => M - (intOf kv).toNat)
  case atStart => exact ⟨0, some ad, 0, rfl, rfl, Nat.zero_le _, H0.out⟩
  case round =>
    obtain ⟨k, bo, cu, rfl, rfl, hk, hR⟩ := hrel
    have HR := Lib.hid hR
    clear hR H0
    by_cases hlt : k < M
    · have hkk : (k : Int) < M := by omega
      go_wp2_with (refine wpList_append_g at22 rfl (.tmp 44) (.tmp 46) rfl w1.heap.size (.slice bo k cu) (.slice (some ⟨wr.heap.size, 0, none⟩) 1 1) k 1 (iv (List.replicate k (C : Int))) [.int .i64 (C : Int)] rfl rfl (World.ownsRow.alloc (w := wr) (by have h := HR.out.own; rw [List.length_replicate] at h; exact h) _) (cells_1 wr 3 _) rfl (by simp [Value.oneCell']) (by have := HR.out.below.size; simp; omega) (by omega) (by omega) ?_; intro ao2 cc2 w4 hA; have HA := Lib.hid hA; clear hA)
      go_roundw
      case rel =>
        have h1 := HR.out.put (R := [(C : Int)]) (n := k + 1) HA.out (by simp)
        rw [← List.replicate_succ'] at h1
        exact ⟨k + 1, ao2, cc2, rfl, by go_num, by omega, h1⟩
      case measure => simp [intOf]; omega
    · have hk' : k = M := by omega
      subst hk'
      have HBF := Lib.hid (flat_built bo cu k C lim wr (by have h := HR.out.own; rw [List.length_replicate] at h; exact own_is h (by simp)) h2 HC3.out h5 h6)
      have HB2 := Lib.hid (HB.out.trans (HR.out.below.mono HB.out.size))
      have n1 : ((k : Int) != k) = false := by simp
      have n2 : (0 : Int) < k := by omega
      go_wp2_with fail
      refine HBF.out.mono ?_
      rintro e w5 ⟨g, us, rfl, hU, hul, hI, hb⟩
      have HU := Lib.hid (And.intro hU hul)
      have HI := Lib.hid hI
      have HB3 := Lib.hid (HB2.out.trans (hb.mono HB2.out.size))
      clear hU hul hI hb HBF HR HB2 HB
      obtain ⟨ls, hls⟩ : ∃ ls, ls = lens (List.replicate k C) us lim := ⟨_, rfl⟩
      have HLS := Lib.hid hls
      have HLL : Hid (ls.length = k) := Lib.hid (by rw [hls, lens_len, List.length_replicate])
      rw [← hls] at HI
      clear hls
      obtain ⟨b1, o1, e1, q1⟩ := HI.out.nat (k := 0) (by rw [HLL.out]; omega)
      simp only [Option.some.injEq, Addr.mk.injEq] at e1
      obtain ⟨rfl, rfl, _⟩ := e1
      rw [Nat.zero_add] at q1
      obtain ⟨x0, hx0⟩ : ∃ x0, x0 = ls.getD 0 0 := ⟨_, rfl⟩
      rw [← hx0] at q1
      have HX0 := Lib.hid hx0
      clear hx0
      go_wp2
      clear q1 n1
      go_loopw [11, 12, 13] (fun v11 v12 jv wr => ∃ (j a b : Nat), v11 = .int .i64 (ls.getD a 0 : Nat) ∧ v12 = .int .i64 (ls.getD b 0 : Nat) ∧ jv = .int .i64 j ∧ j ≤ k ∧ a < k ∧ b < k ∧ (∀ i, i < j → ls.getD a 0 ≤ ls.getD i 0 ∧ ls.getD i 0 ≤ ls.getD b 0) ∧ wr = w5) (fun _ _ jv _ => k - (intOf jv).toNat)
      case atStart => exact ⟨0, 0, 0, by rw [HX0.out], by rw [HX0.out], rfl, Nat.zero_le _, by omega, by omega, fun i hi => absurd hi (Nat.not_lt_zero i), rfl⟩
      case round =>
        obtain ⟨j, a, b, rfl, rfl, rfl, hj, ha, hb, hab, rfl⟩ := hrel
        have HAB := Lib.hid hab
        clear hab
        by_cases hlt : j < k
        · have hkk : (j : Int) < k := by omega
          obtain ⟨b2, o2, e2, q2⟩ := HI.out.nat (k := j) (by rw [HLL.out]; omega)
          simp only [Option.some.injEq, Addr.mk.injEq] at e2
          obtain ⟨rfl, rfl, _⟩ := e2
          rw [Nat.zero_add] at q2
          obtain ⟨x, hx⟩ : ∃ x, x = ls.getD j 0 := ⟨_, rfl⟩
          obtain ⟨lo, hlo⟩ : ∃ lo, lo = ls.getD a 0 := ⟨_, rfl⟩
          obtain ⟨hi, hhi⟩ : ∃ hi, hi = ls.getD b 0 := ⟨_, rfl⟩
          have HH := Lib.hid (And.intro hx (And.intro hlo hhi))
          rw [← hx] at q2
          rw [← hlo, ← hhi]
          clear hx hlo hhi
          obtain ⟨mi, hmi⟩ : ∃ mi, mi = min lo x := ⟨_, rfl⟩
          obtain ⟨ma, hma⟩ : ∃ ma, ma = max hi x := ⟨_, rfl⟩
          have f1 : min (lo : Int) x = mi := by omega
          have f2 : max (hi : Int) x = ma := by omega
          have HM := Lib.hid (And.intro hmi hma)
          clear hmi hma
          go_wp2
          go_roundw
          case rel =>
            have hm := HM.out
            obtain ⟨y1, y2, y3⟩ := HH.out
            refine ⟨j + 1, if lo ≤ x then a else j, if x ≤ hi then b else j, ?_, ?_, by go_num, by omega, ?_, ?_, fun i hi' => ?_, trivial⟩
            · have e : mi = ls.getD (if lo ≤ x then a else j) 0 := by split <;> omega
              rw [← e]
            · have e : ma = ls.getD (if x ≤ hi then b else j) 0 := by split <;> omega
              rw [← e]
            · split <;> omega
            · split <;> omega
            · have h1 : i < j ∨ i = j := by omega
              rcases h1 with h1 | rfl
              · have h2 := HAB.out i h1
                split <;> split <;> omega
              · split <;> split <;> omega
          case measure => simp [intOf]; omega
        · have hj' : j = k := by omega
          have HFF : Hid (ls.getD b 0 ≤ ls.getD a 0 + 1 ∧ 2 ^ ls.getD a 0 ≤ k ∧ k ≤ 2 ^ ls.getD b 0 ∧ ls.getD b 0 ≤ 15) := Lib.hid (by
            have h := HAB.out
            rw [hj'] at h
            rw [HLS.out] at h ⊢
            exact flat_facts HU.out.1 HC3.out.1 h1 (by omega) HU.out.2 ha hb (fun i hi => (h i hi).1) (fun i hi => (h i hi).2))
          have HJ := Lib.hid (And.intro hj' (HAB.out a (by omega)).2)
          obtain ⟨lo, hlo⟩ : ∃ lo, lo = ls.getD a 0 := ⟨_, rfl⟩
          obtain ⟨hi, hhi⟩ : ∃ hi, hi = ls.getD b 0 := ⟨_, rfl⟩
          rw [← hlo, ← hhi] at HFF HJ ⊢
          clear hlo hhi hj' HAB
          obtain ⟨g1, g2, g3, g4⟩ := HFF.out
          have g5 := HJ.out.2
          obtain ⟨pl, ph, e1, e2, e3, e4, e5, e6, e7, e8, e9, e10⟩ := flat_end k lo hi g1 g2 g3 g4 g5
          clear g1 g2 g3 g4 g5
          go_wp2
          go_ret
          exact ⟨rfl, HB3.out⟩
theorem flat (m c l : Int) (w : World) : Calls Try.prog 7 #[.int .i64 m, .int .i64 c, .int .i64 l] w fun e w' => e = .returned (.bool true) ∧ Below w.heap.size w w' := by
  by_cases h1 : 2 ≤ m
  · by_cases h2 : m ≤ 300
    · by_cases h3 : 1 ≤ c
      · by_cases h4 : c ≤ 1073741824
        · by_cases h5 : 9 ≤ l
          · by_cases h6 : l ≤ 15
            · obtain ⟨M, rfl⟩ : ∃ M : Nat, m = M := ⟨m.toNat, by omega⟩
              obtain ⟨C, rfl⟩ : ∃ C : Nat, c = C := ⟨c.toNat, by omega⟩
              obtain ⟨lim, rfl⟩ : ∃ lim : Nat, l = lim := ⟨l.toNat, by omega⟩
              exact flat_in M C lim w (by omega) (by omega) (by omega) (by omega) (by omega) (by omega)
            · exact flat_f m c l w h1 h2 h3 h4 h5 (by omega)
          · exact flat_e m c l w h1 h2 h3 h4 (by omega)
        · exact flat_d m c l w h1 h2 h3 (by omega)
      · exact flat_c m c l w h1 h2 (by omega)
    · exact flat_b m c l w h1 (by omega)
  · exact flat_a m c l w (by omega)
end Go.Proofs.Ytccfbkbfmkdapaa
