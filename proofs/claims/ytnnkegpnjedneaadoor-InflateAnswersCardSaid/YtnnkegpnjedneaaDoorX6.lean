import Derived.Test.YtnnkegpnjedneaaDoorX5

/-
  Contract of the reference's Unpack.
-/
namespace Go.Proofs.YtnnkegpnjedneaaDoor.Z
open Go.RowKit
set_option maxRecDepth 100000

/-- A row of integers of the call's own. -/
structure Rn (w : World) (P : List Int) (v : Value) (wr : World) : Prop where
  own : wr.ownsRow w.heap.size 3 1 v P.length (iv P)
  below : Below w.heap.size w wr
theorem Rn.put {w wr w1 : World} {P R : List Int} {v v' : Value} {n : Nat} {o : Obj} (h : Rn w P v wr) (hA : Apg (wr.alloc o) w.heap.size 3 1 v n (iv P ++ iv R) v' w1) (hn : n = P.length + R.length) : Rn w (P ++ R) v' w1 := by
  subst hn
  refine ⟨?_, h.below.trans (hA.alloc.below h.own h.below.size)⟩
  rw [List.length_append, ← iv_app]
  exact hA.own
theorem Rn.alloc {w wr : World} {P : List Int} {v : Value} (h : Rn w P v wr) (o : Obj) : Rn w P v (wr.alloc o) :=
  ⟨World.ownsRow.alloc (w := wr) h.own o, h.below.alloc h.below.size o⟩

/-- What it tells: a row that stays while only elder blocks change. -/
def Unr (A : Option (List Int)) (w : World) (e : Ending) (w' : World) : Prop := Below w.heap.size w w' ∧
  (A = none → e = .returned (.tuple #[.slice none 0 0, .bool false])) ∧ ∀ ts, A = some ts → ∃ ao c, e = .returned (.tuple #[.slice ao ts.length c, .bool true]) ∧ (∀ w2, Go.Proofs.YtnnkegpnjedneaaDoor.Z.Touch (fun k => k < w.heap.size) w' w2 → IS w2 ao ts) ∧ ts.length ≤ c

/-- Of an item whose form is right, how many lengths it tells. -/
def Fo (s x : Int) (N : Nat) : Prop := (0 ≤ s ∧ s ≤ 15 ∧ x = 0) ∨ (s = 16 ∧ 0 ≤ x ∧ x ≤ 3 ∧ 0 < N) ∨ (s = 17 ∧ 0 ≤ x ∧ x ≤ 7) ∨ (s = 18 ∧ 0 ≤ x ∧ x ≤ 127)
theorem sp_of (s : Int) : (s = 16 → spl s = 3 ∧ spm s = 6) ∧ (s = 17 → spl s = 3 ∧ spm s = 10) ∧ (s = 18 → spl s = 11 ∧ spm s = 138) ∧ (s ≤ 15 → spl s = 1 ∧ spm s = 1) := by
  refine ⟨fun e => ?_, fun e => ?_, fun e => ?_, fun e => spl_small e⟩ <;> subst e <;> exact ⟨rfl, rfl⟩
theorem fo_no {s x : Int} {N : Nat} (h : ¬ Fo s x N) : Wi s x N := by
  have h1 := sp_of s
  unfold Fo at h
  unfold Wi Bad
  by_cases a : s = 16
  · have := h1.1 a; omega
  · by_cases b : s = 17
    · have := h1.2.1 b; omega
    · by_cases c : s = 18
      · have := h1.2.2.1 c; omega
      · by_cases d : s ≤ 15
        · have := h1.2.2.2 d; omega
        · omega
theorem fo_yes {s x : Int} {N : Nat} (h : Fo s x N) : (Wi s x N ↔ (320 - N : Int) < spl s + x) ∧ 0 ≤ x ∧ (spl s : Int) + x ≤ 138 := by
  have h1 := sp_of s
  have h2 := sp_lim s
  unfold Fo at h
  unfold Wi Bad
  by_cases a : s = 16
  · have := h1.1 a; omega
  · by_cases b : s = 17
    · have := h1.2.1 b; omega
    · by_cases c : s = 18
      · have := h1.2.2.1 c; omega
      · by_cases d : s ≤ 15
        · have := h1.2.2.2 d; omega
        · omega

set_option maxHeartbeats 16000000 in
set_option maxRecDepth 100000 in
theorem runpack_any (ao : Option Addr) (c : Nat) (r : List (Int × Int)) (w : World) (h : TS w ao r) (hl : r.length ≤ 1000) :
    Calls Tryd.prog 62 #[.slice ao r.length c] w (Unr (un r []) w) := by
  have HI : Hid (∀ W, Below w.heap.size w W → TS W ao r) := Lib.hid fun W hW => h.on hW
  clear h
  obtain ⟨A, hA⟩ : ∃ A, A = un r [] := ⟨_, rfl⟩
  rw [← hA]
  have HA0 := Lib.hid hA
  clear hA
  have H0 : Hid (Rn w [] (.slice (some ⟨w.heap.size, 0, none⟩) 0 0) (w.alloc (.cells #[] 3))) := Lib.hid ⟨own_none w 3 1, (Below.refl _ _).alloc (Nat.le_refl _) _⟩
  go_enter Tryd.func62, Tryd.ntmps62
  go_wp2
  generalize w.alloc (.cells #[] 3) = w1 at H0 ⊢
  generalize (⟨w.heap.size, 0, none⟩ : Addr) = ad at H0 ⊢
  go_loopw [4, 5] (fun v4 iv' wr => ∃ (k : Nat) (ts : List Int) (bo : Option Addr) (cu : Nat), v4 = .slice bo ts.length cu ∧ iv' = .int .i64 k ∧ k ≤ r.length ∧ ts.length ≤ 320 ∧ un (r.drop k) ts = A ∧ Rn w ts (.slice bo ts.length cu) wr) (fun _ iv' _ => r.length - (intOf iv').toNat)
  case atStart => exact ⟨0, [], some ad, 0, rfl, rfl, Nat.zero_le _, by simp, HA0.out.symm, H0.out⟩
  case round =>
    obtain ⟨k, ts, bo, cu, rfl, rfl, hk, htl, hun, hR⟩ := hrel
    have HUN := Lib.hid hun
    have HR := Lib.hid hR
    clear hun hR H0
    by_cases hlt : k < r.length
    · have hkk : (k : Int) < r.length := by omega
      obtain ⟨b1, o1, rfl, q1, q2⟩ := (HI.out _ HR.out.below).at hlt
      obtain ⟨s, hs⟩ : ∃ s, s = (itm r k).1 := ⟨_, rfl⟩
      obtain ⟨x, hx⟩ : ∃ x, x = (itm r k).2 := ⟨_, rfl⟩
      have HSX := Lib.hid (And.intro hs hx)
      rw [← hs] at q1
      rw [← hx] at q2
      clear hs hx
      by_cases c1 : s < 0
      · have HF : Hid (¬ Fo s x ts.length) := Lib.hid (by unfold Fo; omega)
        have t1 : decide ((0 : Int) ≤ s) = false := decide_eq_false (by omega)
        have e16 : (s == 16) = false := by simp; omega
        have e17 : (s == 17) = false := by simp; omega
        have e18 : (s == 18) = false := by simp; omega
        go_wp2
        go_ret2
        refine ⟨HR.out.below.alloc HR.out.below.size _, fun _ => rfl, fun ts' h => ?_⟩
        exfalso
        have h1 := HUN.out
        have h2 := HSX.out
        rw [h, un_step hlt, ← h2.1, ← h2.2, if_pos (fo_no HF.out)] at h1
        cases h1
      · by_cases c2 : s ≤ 15
        · by_cases c3 : x = 0
          · have HF : Hid (Fo s x ts.length) := Lib.hid (by unfold Fo; omega)
            have HFY := Lib.hid (fo_yes HF.out)
            obtain ⟨n, hn⟩ : ∃ n, n = ((spl s : Int) + x).toNat := ⟨_, rfl⟩
            have HN := Lib.hid hn
            have hn1 : n ≤ 138 := by have := HFY.out; omega
            have hsp := sp_of s
            have HNV : Hid ((n : Int) = 1) := Lib.hid (by have := hsp.2.2.2 (by omega); omega)
            have HTV : Hid (tv s ts = s) := Lib.hid (by rw [tv, if_neg (by omega), if_neg (by omega), if_neg (by omega)])
            clear hn hsp
            have HRA := Lib.hid (HR.out.alloc (.cells #[.int .i64 s, .int .i64 x] 112))
            have t1 : decide ((0 : Int) ≤ s) = true := decide_eq_true (by omega)
            have t2 : decide (s ≤ 15) = true := decide_eq_true (by omega)
            have t3 : (x == 0) = true := by simp; omega
            have HCE := Lib.hid c3
            clear c3
            go_wp2
            have H1 : Hid (Rn w (ts ++ List.replicate 0 s) (.slice bo ts.length cu) (wr.alloc (.cells #[.int .i64 s, .int .i64 x] 112))) := Lib.hid (by simpa using HRA.out)
            generalize (wr.alloc (.cells #[.int .i64 s, .int .i64 x] 112)) = w3 at H1 ⊢
            clear HR HRA q1 q2
            go_loopw [4, 9] (fun v4 jv wr2 => ∃ (j : Nat) (bo2 : Option Addr) (cu2 : Nat), v4 = .slice bo2 (ts.length + j : Nat) cu2 ∧ jv = .int .i64 j ∧ j ≤ n ∧ Rn w (ts ++ List.replicate j s) (.slice bo2 (ts.length + j : Nat) cu2) wr2) (fun _ jv _ => n - (intOf jv).toNat)
            case atStart => exact ⟨0, bo, cu, rfl, rfl, Nat.zero_le _, H1.out⟩
            case round =>
              obtain ⟨j, bo2, cu2, rfl, rfl, hj, hR2⟩ := hrel
              have HR2 := Lib.hid hR2
              clear hR2 H1
              obtain ⟨ts2, ht2⟩ : ∃ ts2, ts2 = ts ++ List.replicate j s := ⟨_, rfl⟩
              have HT2 := Lib.hid ht2
              obtain ⟨N, hN⟩ : ∃ N, N = ts.length + j := ⟨_, rfl⟩
              have HNN := Lib.hid hN
              have HL2 : Hid (ts2.length = N) := Lib.hid (by rw [ht2, hN]; simp)
              have hN2 : N ≤ 460 := by omega
              rw [← ht2, ← hN] at HR2
              rw [← hN]
              clear ht2 hN
              by_cases hlj : j < n
              · have hlj' : (j : Int) < 1 := by have := HNV.out; omega
                go_wp2_with (refine wpList_append_g at22 rfl (.tmp 104) (.tmp 106) rfl w.heap.size (.slice bo2 N cu2) (.slice (some ⟨wr.heap.size, 0, none⟩) 1 1) N 1 (iv ts2) [.int .i64 s] rfl rfl (World.ownsRow.alloc (w := wr) (by have h := HR2.out.own; rw [HL2.out] at h; exact h) _) (cells_1 wr 3 _) rfl (by simp [Value.oneCell']) (by have := HR2.out.below.size; simp; omega) (by omega) (by omega) ?_; intro ao2 cc2 w4 hA; have HA := Lib.hid hA; clear hA)
                go_roundw
                case rel =>
                  have h1 := HR2.out.put (R := [s]) (n := N + 1) HA.out (by rw [HL2.out]; rfl)
                  rw [HT2.out, List.append_assoc, ← List.replicate_succ'] at h1
                  refine ⟨j + 1, ao2, cc2, by rw [HNN.out]; rfl, by go_num, by omega, ?_⟩
                  rw [show ts.length + (j + 1) = N + 1 by rw [HNN.out]; rfl]
                  exact h1
                case measure => simp [intOf]; omega
              · have hj' : j = n := by omega
                have hjj : decide ((j : Int) < 1) = false := decide_eq_false (by have := HNV.out; omega)
                have HJ := Lib.hid hj'
                clear hj'
                by_cases hov : 320 < N
                · have hov' : (320 : Int) < N := by omega
                  have HOV := Lib.hid hov
                  go_wp2
                  go_ret2
                  refine ⟨HR2.out.below, fun _ => rfl, fun ts' h => ?_⟩
                  exfalso
                  have h1 := HUN.out
                  have h2 := HSX.out
                  have h3 := HFY.out
                  have h4 := HNN.out
                  have h5 := HN.out
                  have h6 := HJ.out
                  rw [h, un_step hlt, ← h2.1, ← h2.2, if_pos (h3.1.2 (by omega))] at h1
                  cases h1
                · have hov' : decide ((320 : Int) < N) = false := decide_eq_false (by omega)
                  have HOV := Lib.hid hov
                  go_wp2
                  go_roundw
                  case rel =>
                    refine ⟨k + 1, ts2, bo2, cu2, by rw [HL2.out], by go_num, by omega, by have := HL2.out; omega, ?_, by have h := HR2.out; rw [HL2.out]; exact h⟩
                    have h1 := HUN.out
                    have h2 := HSX.out
                    have h3 := HFY.out
                    have h4 := HNN.out
                    have h5 := HN.out
                    have h6 := HOV.out
                    have h7 := HJ.out
                    rw [un_step hlt, ← h2.1, ← h2.2, if_neg (fun h => h6 (by have := h3.1.1 h; omega)), HTV.out, ← HN.out, ← HJ.out, ← HT2.out] at h1
                    exact h1
                  case measure => simp [intOf]; omega
          · have HF : Hid (¬ Fo s x ts.length) := Lib.hid (by unfold Fo; omega)
            have t1 : decide ((0 : Int) ≤ s) = true := decide_eq_true (by omega)
            have t2 : decide (s ≤ 15) = true := decide_eq_true (by omega)
            have t3 : (x == 0) = false := by simp; omega
            have e16 : (s == 16) = false := by simp; omega
            have e17 : (s == 17) = false := by simp; omega
            have e18 : (s == 18) = false := by simp; omega
            go_wp2
            go_ret2
            refine ⟨HR.out.below.alloc HR.out.below.size _, fun _ => rfl, fun ts' h => ?_⟩
            exfalso
            have h1 := HUN.out
            have h2 := HSX.out
            rw [h, un_step hlt, ← h2.1, ← h2.2, if_pos (fo_no HF.out)] at h1
            cases h1
        · by_cases c4 : s = 16
          · by_cases c5 : x < 0
            · have HF : Hid (¬ Fo s x ts.length) := Lib.hid (by unfold Fo; omega)
              have t1 : decide ((0 : Int) ≤ s) = true := decide_eq_true (by omega)
              have t2 : decide (s ≤ 15) = false := decide_eq_false (by omega)
              have e16 : (s == 16) = true := by simp; omega
              have e17 : (s == 17) = false := by simp; omega
              have e18 : (s == 18) = false := by simp; omega
              have t4 : decide ((0 : Int) ≤ x) = false := decide_eq_false (by omega)
              go_wp2
              go_ret2
              refine ⟨HR.out.below.alloc HR.out.below.size _, fun _ => rfl, fun ts' h => ?_⟩
              exfalso
              have h1 := HUN.out
              have h2 := HSX.out
              rw [h, un_step hlt, ← h2.1, ← h2.2, if_pos (fo_no HF.out)] at h1
              cases h1
            · by_cases c6 : x ≤ 3
              · by_cases c7 : 0 < ts.length
                · have HF : Hid (Fo s x ts.length) := Lib.hid (by unfold Fo; omega)
                  have HFY := Lib.hid (fo_yes HF.out)
                  obtain ⟨n, hn⟩ : ∃ n, n = ((spl s : Int) + x).toNat := ⟨_, rfl⟩
                  have HN := Lib.hid hn
                  have hn1 : n ≤ 138 := by have := HFY.out; omega
                  have hsp := sp_of s
                  have HNV : Hid ((n : Int) = n) := Lib.hid rfl
                  have e9 : IntKind.i64.wrap ((3 : Int) + x) = n := by have := hsp.1 (by omega); rw [IntKind.wrap_i64]; omega
                  obtain ⟨t, ht⟩ : ∃ t, t = tv s ts := ⟨_, rfl⟩
                  have HTV := Lib.hid ht.symm
                  obtain ⟨K, hK⟩ : ∃ K, K = ts.length - 1 := ⟨_, rfl⟩
                  have HY : Hid (t = ts.getD K 0) := Lib.hid (by rw [ht, hK, tv, if_pos (by omega)])
                  clear ht
                  clear hn hsp
                  have HRA := Lib.hid (HR.out.alloc (.cells #[.int .i64 s, .int .i64 x] 112))
                  have e16 : (s == 16) = true := by simp; omega
                  have t1 : decide ((0 : Int) ≤ s) = true := decide_eq_true (by omega)
                  have t2 : decide (s ≤ 15) = false := decide_eq_false (by omega)
                  have t4 : decide ((0 : Int) ≤ x) = true := decide_eq_true (by omega)
                  have t5 : decide (x ≤ 3) = true := decide_eq_true (by omega)
                  have t6 : decide ((0 : Int) < ts.length) = true := decide_eq_true (by omega)
                  have HIS := Lib.hid (own_is HRA.out.own rfl)
                  obtain ⟨b2, o2, rfl, q3⟩ := HIS.out.at (k := K) (by omega)
                  rw [← HY.out] at q3
                  have e7 : IntKind.i64.wrap ((ts.length : Int) - 1) = K := by rw [IntKind.wrap_i64]; omega
                  have e6 : (K : Int) < ts.length := by omega
                  clear hK
                  have HCE := Lib.hid c4
                  clear c4
                  go_wp2
                  have H1 : Hid (Rn w (ts ++ List.replicate 0 t) (.slice (some ⟨b2, o2, none⟩) ts.length cu) (wr.alloc (.cells #[.int .i64 s, .int .i64 x] 112))) := Lib.hid (by simpa using HRA.out)
                  generalize (wr.alloc (.cells #[.int .i64 s, .int .i64 x] 112)) = w3 at H1 ⊢
                  clear HR HRA q1 q2
                  go_loopw [4, 9] (fun v4 jv wr2 => ∃ (j : Nat) (bo2 : Option Addr) (cu2 : Nat), v4 = .slice bo2 (ts.length + j : Nat) cu2 ∧ jv = .int .i64 j ∧ j ≤ n ∧ Rn w (ts ++ List.replicate j t) (.slice bo2 (ts.length + j : Nat) cu2) wr2) (fun _ jv _ => n - (intOf jv).toNat)
                  case atStart => exact ⟨0, (some ⟨b2, o2, none⟩), cu, rfl, rfl, Nat.zero_le _, H1.out⟩
                  case round =>
                    obtain ⟨j, bo2, cu2, rfl, rfl, hj, hR2⟩ := hrel
                    have HR2 := Lib.hid hR2
                    clear hR2 H1
                    obtain ⟨ts2, ht2⟩ : ∃ ts2, ts2 = ts ++ List.replicate j t := ⟨_, rfl⟩
                    have HT2 := Lib.hid ht2
                    obtain ⟨N, hN⟩ : ∃ N, N = ts.length + j := ⟨_, rfl⟩
                    have HNN := Lib.hid hN
                    have HL2 : Hid (ts2.length = N) := Lib.hid (by rw [ht2, hN]; simp)
                    have hN2 : N ≤ 460 := by omega
                    rw [← ht2, ← hN] at HR2
                    rw [← hN]
                    clear ht2 hN
                    by_cases hlj : j < n
                    · have hlj' : (j : Int) < n := by have := HNV.out; omega
                      go_wp2_with (refine wpList_append_g at22 rfl (.tmp 104) (.tmp 106) rfl w.heap.size (.slice bo2 N cu2) (.slice (some ⟨wr.heap.size, 0, none⟩) 1 1) N 1 (iv ts2) [.int .i64 t] rfl rfl (World.ownsRow.alloc (w := wr) (by have h := HR2.out.own; rw [HL2.out] at h; exact h) _) (cells_1 wr 3 _) rfl (by simp [Value.oneCell']) (by have := HR2.out.below.size; simp; omega) (by omega) (by omega) ?_; intro ao2 cc2 w4 hA; have HA := Lib.hid hA; clear hA)
                      go_roundw
                      case rel =>
                        have h1 := HR2.out.put (R := [t]) (n := N + 1) HA.out (by rw [HL2.out]; rfl)
                        rw [HT2.out, List.append_assoc, ← List.replicate_succ'] at h1
                        refine ⟨j + 1, ao2, cc2, by rw [HNN.out]; rfl, by go_num, by omega, ?_⟩
                        rw [show ts.length + (j + 1) = N + 1 by rw [HNN.out]; rfl]
                        exact h1
                      case measure => simp [intOf]; omega
                    · have hj' : j = n := by omega
                      have hjj : decide ((j : Int) < n) = false := decide_eq_false (by have := HNV.out; omega)
                      have HJ := Lib.hid hj'
                      clear hj'
                      by_cases hov : 320 < N
                      · have hov' : (320 : Int) < N := by omega
                        have HOV := Lib.hid hov
                        go_wp2
                        go_ret2
                        refine ⟨HR2.out.below, fun _ => rfl, fun ts' h => ?_⟩
                        exfalso
                        have h1 := HUN.out
                        have h2 := HSX.out
                        have h3 := HFY.out
                        have h4 := HNN.out
                        have h5 := HN.out
                        have h6 := HJ.out
                        rw [h, un_step hlt, ← h2.1, ← h2.2, if_pos (h3.1.2 (by omega))] at h1
                        cases h1
                      · have hov' : decide ((320 : Int) < N) = false := decide_eq_false (by omega)
                        have HOV := Lib.hid hov
                        go_wp2
                        go_roundw
                        case rel =>
                          refine ⟨k + 1, ts2, bo2, cu2, by rw [HL2.out], by go_num, by omega, by have := HL2.out; omega, ?_, by have h := HR2.out; rw [HL2.out]; exact h⟩
                          have h1 := HUN.out
                          have h2 := HSX.out
                          have h3 := HFY.out
                          have h4 := HNN.out
                          have h5 := HN.out
                          have h6 := HOV.out
                          have h7 := HJ.out
                          rw [un_step hlt, ← h2.1, ← h2.2, if_neg (fun h => h6 (by have := h3.1.1 h; omega)), HTV.out, ← HN.out, ← HJ.out, ← HT2.out] at h1
                          exact h1
                        case measure => simp [intOf]; omega
                · have HF : Hid (¬ Fo s x ts.length) := Lib.hid (by unfold Fo; omega)
                  have t1 : decide ((0 : Int) ≤ s) = true := decide_eq_true (by omega)
                  have t2 : decide (s ≤ 15) = false := decide_eq_false (by omega)
                  have e16 : (s == 16) = true := by simp; omega
                  have e17 : (s == 17) = false := by simp; omega
                  have e18 : (s == 18) = false := by simp; omega
                  have t4 : decide ((0 : Int) ≤ x) = true := decide_eq_true (by omega)
                  have t5 : decide (x ≤ 3) = true := decide_eq_true (by omega)
                  have t6 : decide ((0 : Int) < ts.length) = false := decide_eq_false (by omega)
                  go_wp2
                  go_ret2
                  refine ⟨HR.out.below.alloc HR.out.below.size _, fun _ => rfl, fun ts' h => ?_⟩
                  exfalso
                  have h1 := HUN.out
                  have h2 := HSX.out
                  rw [h, un_step hlt, ← h2.1, ← h2.2, if_pos (fo_no HF.out)] at h1
                  cases h1
              · have HF : Hid (¬ Fo s x ts.length) := Lib.hid (by unfold Fo; omega)
                have t1 : decide ((0 : Int) ≤ s) = true := decide_eq_true (by omega)
                have t2 : decide (s ≤ 15) = false := decide_eq_false (by omega)
                have e16 : (s == 16) = true := by simp; omega
                have e17 : (s == 17) = false := by simp; omega
                have e18 : (s == 18) = false := by simp; omega
                have t4 : decide ((0 : Int) ≤ x) = true := decide_eq_true (by omega)
                have t5 : decide (x ≤ 3) = false := decide_eq_false (by omega)
                go_wp2
                go_ret2
                refine ⟨HR.out.below.alloc HR.out.below.size _, fun _ => rfl, fun ts' h => ?_⟩
                exfalso
                have h1 := HUN.out
                have h2 := HSX.out
                rw [h, un_step hlt, ← h2.1, ← h2.2, if_pos (fo_no HF.out)] at h1
                cases h1
          · by_cases c8 : s = 17
            · by_cases c9 : x < 0
              · have HF : Hid (¬ Fo s x ts.length) := Lib.hid (by unfold Fo; omega)
                have t1 : decide ((0 : Int) ≤ s) = true := decide_eq_true (by omega)
                have t2 : decide (s ≤ 15) = false := decide_eq_false (by omega)
                have e16 : (s == 16) = false := by simp; omega
                have e17 : (s == 17) = true := by simp; omega
                have e18 : (s == 18) = false := by simp; omega
                have t4 : decide ((0 : Int) ≤ x) = false := decide_eq_false (by omega)
                go_wp2
                go_ret2
                refine ⟨HR.out.below.alloc HR.out.below.size _, fun _ => rfl, fun ts' h => ?_⟩
                exfalso
                have h1 := HUN.out
                have h2 := HSX.out
                rw [h, un_step hlt, ← h2.1, ← h2.2, if_pos (fo_no HF.out)] at h1
                cases h1
              · by_cases c10 : x ≤ 7
                · have HF : Hid (Fo s x ts.length) := Lib.hid (by unfold Fo; omega)
                  have HFY := Lib.hid (fo_yes HF.out)
                  obtain ⟨n, hn⟩ : ∃ n, n = ((spl s : Int) + x).toNat := ⟨_, rfl⟩
                  have HN := Lib.hid hn
                  have hn1 : n ≤ 138 := by have := HFY.out; omega
                  have hsp := sp_of s
                  have HNV : Hid ((n : Int) = n) := Lib.hid rfl
                  have e9 : IntKind.i64.wrap ((3 : Int) + x) = n := by have := hsp.2.1 (by omega); rw [IntKind.wrap_i64]; omega
                  have HTV : Hid (tv s ts = 0) := Lib.hid (by rw [tv, if_neg (by omega), if_pos (by omega)])
                  clear hn hsp
                  have HRA := Lib.hid (HR.out.alloc (.cells #[.int .i64 s, .int .i64 x] 112))
                  have e16 : (s == 16) = false := by simp; omega
                  have e17 : (s == 17) = true := by simp; omega
                  have t1 : decide ((0 : Int) ≤ s) = true := decide_eq_true (by omega)
                  have t2 : decide (s ≤ 15) = false := decide_eq_false (by omega)
                  have t4 : decide ((0 : Int) ≤ x) = true := decide_eq_true (by omega)
                  have t5 : decide (x ≤ 7) = true := decide_eq_true (by omega)
                  have HCE := Lib.hid c8
                  clear c8
                  go_wp2
                  have H1 : Hid (Rn w (ts ++ List.replicate 0 (0 : Int)) (.slice bo ts.length cu) (wr.alloc (.cells #[.int .i64 s, .int .i64 x] 112))) := Lib.hid (by simpa using HRA.out)
                  generalize (wr.alloc (.cells #[.int .i64 s, .int .i64 x] 112)) = w3 at H1 ⊢
                  clear HR HRA q1 q2
                  go_loopw [4, 9] (fun v4 jv wr2 => ∃ (j : Nat) (bo2 : Option Addr) (cu2 : Nat), v4 = .slice bo2 (ts.length + j : Nat) cu2 ∧ jv = .int .i64 j ∧ j ≤ n ∧ Rn w (ts ++ List.replicate j (0 : Int)) (.slice bo2 (ts.length + j : Nat) cu2) wr2) (fun _ jv _ => n - (intOf jv).toNat)
                  case atStart => exact ⟨0, bo, cu, rfl, rfl, Nat.zero_le _, H1.out⟩
                  case round =>
                    obtain ⟨j, bo2, cu2, rfl, rfl, hj, hR2⟩ := hrel
                    have HR2 := Lib.hid hR2
                    clear hR2 H1
                    obtain ⟨ts2, ht2⟩ : ∃ ts2, ts2 = ts ++ List.replicate j (0 : Int) := ⟨_, rfl⟩
                    have HT2 := Lib.hid ht2
                    obtain ⟨N, hN⟩ : ∃ N, N = ts.length + j := ⟨_, rfl⟩
                    have HNN := Lib.hid hN
                    have HL2 : Hid (ts2.length = N) := Lib.hid (by rw [ht2, hN]; simp)
                    have hN2 : N ≤ 460 := by omega
                    rw [← ht2, ← hN] at HR2
                    rw [← hN]
                    clear ht2 hN
                    by_cases hlj : j < n
                    · have hlj' : (j : Int) < n := by have := HNV.out; omega
                      go_wp2_with (refine wpList_append_g at22 rfl (.tmp 104) (.tmp 106) rfl w.heap.size (.slice bo2 N cu2) (.slice (some ⟨wr.heap.size, 0, none⟩) 1 1) N 1 (iv ts2) [.int .i64 (0 : Int)] rfl rfl (World.ownsRow.alloc (w := wr) (by have h := HR2.out.own; rw [HL2.out] at h; exact h) _) (cells_1 wr 3 _) rfl (by simp [Value.oneCell']) (by have := HR2.out.below.size; simp; omega) (by omega) (by omega) ?_; intro ao2 cc2 w4 hA; have HA := Lib.hid hA; clear hA)
                      go_roundw
                      case rel =>
                        have h1 := HR2.out.put (R := [(0 : Int)]) (n := N + 1) HA.out (by rw [HL2.out]; rfl)
                        rw [HT2.out, List.append_assoc, ← List.replicate_succ'] at h1
                        refine ⟨j + 1, ao2, cc2, by rw [HNN.out]; rfl, by go_num, by omega, ?_⟩
                        rw [show ts.length + (j + 1) = N + 1 by rw [HNN.out]; rfl]
                        exact h1
                      case measure => simp [intOf]; omega
                    · have hj' : j = n := by omega
                      have hjj : decide ((j : Int) < n) = false := decide_eq_false (by have := HNV.out; omega)
                      have HJ := Lib.hid hj'
                      clear hj'
                      by_cases hov : 320 < N
                      · have hov' : (320 : Int) < N := by omega
                        have HOV := Lib.hid hov
                        go_wp2
                        go_ret2
                        refine ⟨HR2.out.below, fun _ => rfl, fun ts' h => ?_⟩
                        exfalso
                        have h1 := HUN.out
                        have h2 := HSX.out
                        have h3 := HFY.out
                        have h4 := HNN.out
                        have h5 := HN.out
                        have h6 := HJ.out
                        rw [h, un_step hlt, ← h2.1, ← h2.2, if_pos (h3.1.2 (by omega))] at h1
                        cases h1
                      · have hov' : decide ((320 : Int) < N) = false := decide_eq_false (by omega)
                        have HOV := Lib.hid hov
                        go_wp2
                        go_roundw
                        case rel =>
                          refine ⟨k + 1, ts2, bo2, cu2, by rw [HL2.out], by go_num, by omega, by have := HL2.out; omega, ?_, by have h := HR2.out; rw [HL2.out]; exact h⟩
                          have h1 := HUN.out
                          have h2 := HSX.out
                          have h3 := HFY.out
                          have h4 := HNN.out
                          have h5 := HN.out
                          have h6 := HOV.out
                          have h7 := HJ.out
                          rw [un_step hlt, ← h2.1, ← h2.2, if_neg (fun h => h6 (by have := h3.1.1 h; omega)), HTV.out, ← HN.out, ← HJ.out, ← HT2.out] at h1
                          exact h1
                        case measure => simp [intOf]; omega
                · have HF : Hid (¬ Fo s x ts.length) := Lib.hid (by unfold Fo; omega)
                  have t1 : decide ((0 : Int) ≤ s) = true := decide_eq_true (by omega)
                  have t2 : decide (s ≤ 15) = false := decide_eq_false (by omega)
                  have e16 : (s == 16) = false := by simp; omega
                  have e17 : (s == 17) = true := by simp; omega
                  have e18 : (s == 18) = false := by simp; omega
                  have t4 : decide ((0 : Int) ≤ x) = true := decide_eq_true (by omega)
                  have t5 : decide (x ≤ 7) = false := decide_eq_false (by omega)
                  go_wp2
                  go_ret2
                  refine ⟨HR.out.below.alloc HR.out.below.size _, fun _ => rfl, fun ts' h => ?_⟩
                  exfalso
                  have h1 := HUN.out
                  have h2 := HSX.out
                  rw [h, un_step hlt, ← h2.1, ← h2.2, if_pos (fo_no HF.out)] at h1
                  cases h1
            · by_cases c11 : s = 18
              · by_cases c12 : x < 0
                · have HF : Hid (¬ Fo s x ts.length) := Lib.hid (by unfold Fo; omega)
                  have t1 : decide ((0 : Int) ≤ s) = true := decide_eq_true (by omega)
                  have t2 : decide (s ≤ 15) = false := decide_eq_false (by omega)
                  have e16 : (s == 16) = false := by simp; omega
                  have e17 : (s == 17) = false := by simp; omega
                  have e18 : (s == 18) = true := by simp; omega
                  have t4 : decide ((0 : Int) ≤ x) = false := decide_eq_false (by omega)
                  go_wp2
                  go_ret2
                  refine ⟨HR.out.below.alloc HR.out.below.size _, fun _ => rfl, fun ts' h => ?_⟩
                  exfalso
                  have h1 := HUN.out
                  have h2 := HSX.out
                  rw [h, un_step hlt, ← h2.1, ← h2.2, if_pos (fo_no HF.out)] at h1
                  cases h1
                · by_cases c13 : x ≤ 127
                  · have HF : Hid (Fo s x ts.length) := Lib.hid (by unfold Fo; omega)
                    have HFY := Lib.hid (fo_yes HF.out)
                    obtain ⟨n, hn⟩ : ∃ n, n = ((spl s : Int) + x).toNat := ⟨_, rfl⟩
                    have HN := Lib.hid hn
                    have hn1 : n ≤ 138 := by have := HFY.out; omega
                    have hsp := sp_of s
                    have HNV : Hid ((n : Int) = n) := Lib.hid rfl
                    have e9 : IntKind.i64.wrap ((11 : Int) + x) = n := by have := hsp.2.2.1 (by omega); rw [IntKind.wrap_i64]; omega
                    have HTV : Hid (tv s ts = 0) := Lib.hid (by rw [tv, if_neg (by omega), if_neg (by omega), if_pos (by omega)])
                    clear hn hsp
                    have HRA := Lib.hid (HR.out.alloc (.cells #[.int .i64 s, .int .i64 x] 112))
                    have e16 : (s == 16) = false := by simp; omega
                    have e17 : (s == 17) = false := by simp; omega
                    have e18 : (s == 18) = true := by simp; omega
                    have t1 : decide ((0 : Int) ≤ s) = true := decide_eq_true (by omega)
                    have t2 : decide (s ≤ 15) = false := decide_eq_false (by omega)
                    have t4 : decide ((0 : Int) ≤ x) = true := decide_eq_true (by omega)
                    have t5 : decide (x ≤ 127) = true := decide_eq_true (by omega)
                    have HCE := Lib.hid c11
                    clear c11
                    go_wp2
                    have H1 : Hid (Rn w (ts ++ List.replicate 0 (0 : Int)) (.slice bo ts.length cu) (wr.alloc (.cells #[.int .i64 s, .int .i64 x] 112))) := Lib.hid (by simpa using HRA.out)
                    generalize (wr.alloc (.cells #[.int .i64 s, .int .i64 x] 112)) = w3 at H1 ⊢
                    clear HR HRA q1 q2
                    go_loopw [4, 9] (fun v4 jv wr2 => ∃ (j : Nat) (bo2 : Option Addr) (cu2 : Nat), v4 = .slice bo2 (ts.length + j : Nat) cu2 ∧ jv = .int .i64 j ∧ j ≤ n ∧ Rn w (ts ++ List.replicate j (0 : Int)) (.slice bo2 (ts.length + j : Nat) cu2) wr2) (fun _ jv _ => n - (intOf jv).toNat)
                    case atStart => exact ⟨0, bo, cu, rfl, rfl, Nat.zero_le _, H1.out⟩
                    case round =>
                      obtain ⟨j, bo2, cu2, rfl, rfl, hj, hR2⟩ := hrel
                      have HR2 := Lib.hid hR2
                      clear hR2 H1
                      obtain ⟨ts2, ht2⟩ : ∃ ts2, ts2 = ts ++ List.replicate j (0 : Int) := ⟨_, rfl⟩
                      have HT2 := Lib.hid ht2
                      obtain ⟨N, hN⟩ : ∃ N, N = ts.length + j := ⟨_, rfl⟩
                      have HNN := Lib.hid hN
                      have HL2 : Hid (ts2.length = N) := Lib.hid (by rw [ht2, hN]; simp)
                      have hN2 : N ≤ 460 := by omega
                      rw [← ht2, ← hN] at HR2
                      rw [← hN]
                      clear ht2 hN
                      by_cases hlj : j < n
                      · have hlj' : (j : Int) < n := by have := HNV.out; omega
                        go_wp2_with (refine wpList_append_g at22 rfl (.tmp 104) (.tmp 106) rfl w.heap.size (.slice bo2 N cu2) (.slice (some ⟨wr.heap.size, 0, none⟩) 1 1) N 1 (iv ts2) [.int .i64 (0 : Int)] rfl rfl (World.ownsRow.alloc (w := wr) (by have h := HR2.out.own; rw [HL2.out] at h; exact h) _) (cells_1 wr 3 _) rfl (by simp [Value.oneCell']) (by have := HR2.out.below.size; simp; omega) (by omega) (by omega) ?_; intro ao2 cc2 w4 hA; have HA := Lib.hid hA; clear hA)
                        go_roundw
                        case rel =>
                          have h1 := HR2.out.put (R := [(0 : Int)]) (n := N + 1) HA.out (by rw [HL2.out]; rfl)
                          rw [HT2.out, List.append_assoc, ← List.replicate_succ'] at h1
                          refine ⟨j + 1, ao2, cc2, by rw [HNN.out]; rfl, by go_num, by omega, ?_⟩
                          rw [show ts.length + (j + 1) = N + 1 by rw [HNN.out]; rfl]
                          exact h1
                        case measure => simp [intOf]; omega
                      · have hj' : j = n := by omega
                        have hjj : decide ((j : Int) < n) = false := decide_eq_false (by have := HNV.out; omega)
                        have HJ := Lib.hid hj'
                        clear hj'
                        by_cases hov : 320 < N
                        · have hov' : (320 : Int) < N := by omega
                          have HOV := Lib.hid hov
                          go_wp2
                          go_ret2
                          refine ⟨HR2.out.below, fun _ => rfl, fun ts' h => ?_⟩
                          exfalso
                          have h1 := HUN.out
                          have h2 := HSX.out
                          have h3 := HFY.out
                          have h4 := HNN.out
                          have h5 := HN.out
                          have h6 := HJ.out
                          rw [h, un_step hlt, ← h2.1, ← h2.2, if_pos (h3.1.2 (by omega))] at h1
                          cases h1
                        · have hov' : decide ((320 : Int) < N) = false := decide_eq_false (by omega)
                          have HOV := Lib.hid hov
                          go_wp2
                          go_roundw
                          case rel =>
                            refine ⟨k + 1, ts2, bo2, cu2, by rw [HL2.out], by go_num, by omega, by have := HL2.out; omega, ?_, by have h := HR2.out; rw [HL2.out]; exact h⟩
                            have h1 := HUN.out
                            have h2 := HSX.out
                            have h3 := HFY.out
                            have h4 := HNN.out
                            have h5 := HN.out
                            have h6 := HOV.out
                            have h7 := HJ.out
                            rw [un_step hlt, ← h2.1, ← h2.2, if_neg (fun h => h6 (by have := h3.1.1 h; omega)), HTV.out, ← HN.out, ← HJ.out, ← HT2.out] at h1
                            exact h1
                          case measure => simp [intOf]; omega
                  · have HF : Hid (¬ Fo s x ts.length) := Lib.hid (by unfold Fo; omega)
                    have t1 : decide ((0 : Int) ≤ s) = true := decide_eq_true (by omega)
                    have t2 : decide (s ≤ 15) = false := decide_eq_false (by omega)
                    have e16 : (s == 16) = false := by simp; omega
                    have e17 : (s == 17) = false := by simp; omega
                    have e18 : (s == 18) = true := by simp; omega
                    have t4 : decide ((0 : Int) ≤ x) = true := decide_eq_true (by omega)
                    have t5 : decide (x ≤ 127) = false := decide_eq_false (by omega)
                    go_wp2
                    go_ret2
                    refine ⟨HR.out.below.alloc HR.out.below.size _, fun _ => rfl, fun ts' h => ?_⟩
                    exfalso
                    have h1 := HUN.out
                    have h2 := HSX.out
                    rw [h, un_step hlt, ← h2.1, ← h2.2, if_pos (fo_no HF.out)] at h1
                    cases h1
              · have HF : Hid (¬ Fo s x ts.length) := Lib.hid (by unfold Fo; omega)
                have t1 : decide ((0 : Int) ≤ s) = true := decide_eq_true (by omega)
                have t2 : decide (s ≤ 15) = false := decide_eq_false (by omega)
                have e16 : (s == 16) = false := by simp; omega
                have e17 : (s == 17) = false := by simp; omega
                have e18 : (s == 18) = false := by simp; omega
                go_wp2
                go_ret2
                refine ⟨HR.out.below.alloc HR.out.below.size _, fun _ => rfl, fun ts' h => ?_⟩
                exfalso
                have h1 := HUN.out
                have h2 := HSX.out
                rw [h, un_step hlt, ← h2.1, ← h2.2, if_pos (fo_no HF.out)] at h1
                cases h1
    · have hk' : k = r.length := by omega
      subst hk'
      go_wp2
      go_ret2
      refine ⟨HR.out.below, fun h => ?_, fun ts' h => ?_⟩
      · have h1 := HUN.out
        rw [h, un_end] at h1
        cases h1
      · have h1 := HUN.out
        rw [h, un_end] at h1
        cases h1
        exact ⟨bo, cu, rfl, fun w2 ht => own_is (ownsRow_touch HR.out.own ht fun i hi e => by have := (HR.out.own.lt i hi).1; omega) rfl, own_cap HR.out.own⟩
end Go.Proofs.YtnnkegpnjedneaaDoor.Z

