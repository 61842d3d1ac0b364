/-
  The law on lines: the walk.
-/
import Derived.Test.YtmnkdnlmpgmdgaaDoorUt0
namespace Go.Proofs.YtmnkdnlmpgmdgaaDoor
open Go.RowKit U
set_option maxRecDepth 100000

/-- How many ends; did 13 stand before? -/
def ends : Bool → List Nat → Nat
  | _, [] => 0
  | p, x :: t => (if x = 13 ∨ (x = 10 ∧ p = false) then 1 else 0) + ends (decide (x = 13)) t
/-- How many 10. -/
def tens (l : List Nat) : Nat := l.count 10
theorem tens_cons (x : Nat) (t : List Nat) : tens (x :: t) = (if x = 10 then 1 else 0) + tens t := by
  unfold tens
  rw [List.count_cons]
  by_cases h : x = 10
  · simp [h, Nat.add_comm]
  · simp [h]
theorem lin_tens : ∀ (b : List Nat) (p : Bool), tens (lin p b) = ends p b
  | [], p => by cases p <;> rfl
  | x :: t, p => by
    unfold lin ends
    by_cases h : x = 10 ∧ p = true
    · obtain ⟨rfl, rfl⟩ := h
      simp [lin_tens t]
    · rw [if_neg h, tens_cons, lin_tens t]
      congr 1
      by_cases h1 : x = 13
      · simp [h1]
      · by_cases h2 : x = 10
        · have h3 : p = false := by cases p with
            | true => exact absurd ⟨h2, rfl⟩ h
            | false => rfl
          simp [h2, h3]
        · simp [h1, h2]
theorem lin_no13 : ∀ (b : List Nat) (p : Bool), ∀ x ∈ lin p b, x ≠ 13
  | [], p, x, h => by cases p <;> simp [lin] at h
  | y :: t, p, x, h => by
    unfold lin at h
    split at h
    · exact lin_no13 t _ x h
    · rcases List.mem_cons.1 h with h | h
      · subst h; split <;> omega
      · exact lin_no13 t _ x h
theorem lin_same : ∀ (l : List Nat), (∀ x ∈ l, x ≠ 13) → lin false l = l
  | [], _ => rfl
  | x :: t, h => by
    have hx : x ≠ 13 := h x (by simp)
    unfold lin
    rw [if_neg (by simp), if_neg hx, decide_eq_false hx, lin_same t fun y hy => h y (by simp [hy])]
theorem lin_len (s : List Nat) : (lin false s).length ≤ s.length := by rw [← lin_r, r2_len]; exact r1_len s
theorem lin_bs {s : List Nat} (h : Bs s) : Bs (lin false s) := by rw [← lin_r]; exact r2_bs (r1_bs h)
theorem ends_drop {b : List Nat} {k : Nat} (h : k < b.length) (p : Bool) : ends p (b.drop k) = (if b.getD k 0 = 13 ∨ (b.getD k 0 = 10 ∧ p = false) then 1 else 0) + ends (decide (b.getD k 0 = 13)) (b.drop (k + 1)) := by
  rw [List.drop_eq_getElem_cons h, ends]
  simp [List.getD, h]
theorem tens_drop {l : List Nat} {k : Nat} (h : k < l.length) : tens (l.drop k) = (if l.getD k 0 = 10 then 1 else 0) + tens (l.drop (k + 1)) := by
  rw [List.drop_eq_getElem_cons h, tens_cons]
  simp [List.getD, h]
/-- Did 13 stand before a place? -/
def prv (b : List Nat) (k : Nat) : Bool := decide (0 < k ∧ b.getD (k - 1) 0 = 13)
theorem prv_succ (b : List Nat) (k : Nat) : prv b (k + 1) = decide (b.getD k 0 = 13) := by simp [prv]
theorem ends_le : ∀ (b : List Nat) (p : Bool), ends p b ≤ b.length
  | [], p => by cases p <;> simp [ends]
  | x :: t, p => by
    unfold ends
    have := ends_le t (decide (x = 13))
    simp only [List.length_cons]
    split <;> omega

set_option maxHeartbeats 6400000 in
theorem lines_main (ao : Option Addr) (c : Nat) (xs : List Nat) (w : World) (hT : TU w) (h : Sl w ao c xs) (hm : xs.length ≤ 3000) :
    Calls Tryd.prog 6 #[.slice ao xs.length c] w fun e w' => e = .returned (.bool true) ∧ Below w.heap.size w w' := by
  have KA := Lib.hid (alive_any w hT)
  have HT := Lib.hid hT
  have HS := Lib.hid h
  have hll := lin_len xs
  have HE := Lib.hid (lin_tens xs false)
  have HEL := Lib.hid (ends_le xs false)
  have h13 := lin_no13 xs false
  have KL := Lib.hid fun (W : World) (hW : Below w.heap.size w W) => Lines_any ao c xs W (h.below hW) (by omega) (hT.grow hW)
  have KL2 := Lib.hid fun (W : World) (hW : Below w.heap.size w W) (a : Option Addr) (c : Nat) (hs : Sl W a c (lin false xs)) => Lines_any a c (lin false xs) W hs (by omega) (hT.grow hW)
  obtain ⟨L, hL⟩ : ∃ L, L = lin false xs := ⟨_, rfl⟩
  rw [← hL] at hll HE h13 KL KL2
  rw [lin_same L h13] at KL2
  obtain ⟨E, hE⟩ : ∃ E, E = ends false xs := ⟨_, rfl⟩
  rw [← hE] at HE HEL
  have HEE := Lib.hid hE
  have H13 := Lib.hid h13
  obtain ⟨n, hn⟩ : ∃ n, n = xs.length := ⟨_, rfl⟩
  obtain ⟨m, hmm⟩ : ∃ m, m = L.length := ⟨_, rfl⟩
  have HN := Lib.hid hn
  have HM := Lib.hid hmm
  unfold SlTo at KL KL2
  rw [← hn, ← hmm] at KL
  rw [← hmm] at KL2
  rw [← hn] at hm hll HEL ⊢
  rw [← hmm] at hll
  have e1 : ¬ (3000 : Int) < n := by omega
  clear hT h hL h13 hn hmm hE
  go_enter Tryd.func6, Tryd.ntmps6
  go_wp2_with (first
    | (go_at_call 8; (with_reducible refine KA.out.mono ?_); rintro e w1 ⟨rfl, hb⟩; have HB1 := Lib.hid hb; clear hb)
    | (go_at_call 28; (with_reducible refine (KL.out w1 HB1.out).mono ?_); rintro e w2 ⟨a2, c2, rfl, hs, hb⟩; have HS2 := Lib.hid hs; have HB2 := Lib.hid (HB1.out.trans (hb.mono HB1.out.size)); clear hs hb))
  go_loop [4, 5] (fun v4 v5 => ∃ (k e : Nat), k ≤ n ∧ v5 = .int .i64 k ∧ v4 = .int .i64 e ∧ e ≤ k ∧ Hid (e + ends (prv xs k) (xs.drop k) = E)) (fun _ v5 => n - (intOf v5).toNat)
  case atStart => exact ⟨0, 0, Nat.zero_le _, rfl, rfl, Nat.le_refl _, Lib.hid (by rw [HEE.out, Nat.zero_add]; rfl)⟩
  case round =>
    obtain ⟨k, e, hk, rfl, rfl, hek, hrel⟩ := hrel
    by_cases hlt : k < n
    · have hkk : (k : Int) < n := by omega
      have hkx : k < xs.length := by rw [← HN.out]; exact hlt
      have hS2 := HS.out.below HB2.out
      rcases hS2.src with h0 | ⟨b, off, rfl, hc⟩
      · rw [h0] at hkx; simp at hkx
      have hcell := hc k hkx
      have HC := Lib.hid hc
      have hst := hrel.out
      rw [ends_drop hkx, ← prv_succ] at hst
      obtain ⟨x, hx⟩ : ∃ x, x = xs.getD k 0 := ⟨_, rfl⟩
      rw [← hx] at hcell hst
      have HST := Lib.hid hst
      clear hc hS2 hrel hst hx
      by_cases c13 : x = 13
      · subst c13
        have HR : Hid (e + 1 + ends (prv xs (k + 1)) (xs.drop (k + 1)) = E) := Lib.hid (by rw [← HST.out, if_pos (.inl rfl)]; omega)
        go_wp2
        go_round
        case rel => exact ⟨k + 1, e + 1, by omega, by go_num, by go_num, by omega, HR⟩
        case measure => simp [intOf]; omega
      · have c13' : ¬ (x : Int) = 13 := by omega
        by_cases c10 : x = 10
        · subst c10
          by_cases ck : k = 0
          · subst ck
            rw [Nat.add_zero] at hcell
            have HR : Hid (e + 1 + ends (prv xs (0 + 1)) (xs.drop (0 + 1)) = E) := Lib.hid (by rw [← HST.out, if_pos (.inr ⟨rfl, rfl⟩)]; omega)
            go_wp2
            go_round
            case rel => exact ⟨0 + 1, e + 1, by omega, by go_num, by go_num, by omega, HR⟩
            case measure => simp [intOf]; omega
          · have ck' : ¬ (k : Int) = 0 := by omega
            obtain ⟨j, hj⟩ : ∃ j, k = j + 1 := ⟨k - 1, by omega⟩
            have hcj := HC.out j (by omega)
            have hpr : prv xs k = decide (xs.getD j 0 = 13) := by rw [hj, prv_succ]
            have hsub : IntKind.i64.wrap ((k : Int) - 1) = (j : Int) := by rw [IntKind.wrap_i64]; omega
            obtain ⟨y, hy⟩ : ∃ y, y = xs.getD j 0 := ⟨_, rfl⟩
            rw [← hy] at hcj hpr
            have HPR := Lib.hid hpr
            have hjn : j < n := by omega
            clear hj hy hpr ck
            by_cases cy : y = 13
            · subst cy
              have HR : Hid (e + ends (prv xs (k + 1)) (xs.drop (k + 1)) = E) := Lib.hid (by rw [← HST.out, HPR.out, if_neg (by simp)]; omega)
              go_wp2
              go_round
              case rel => exact ⟨k + 1, e, by omega, by go_num, rfl, by omega, HR⟩
              case measure => simp [intOf]; omega
            · have cy' : ¬ (y : Int) = 13 := by omega
              have HR : Hid (e + 1 + ends (prv xs (k + 1)) (xs.drop (k + 1)) = E) := Lib.hid (by rw [← HST.out, HPR.out, if_pos (.inr ⟨rfl, by simp [cy]⟩)]; omega)
              go_wp2
              go_round
              case rel => exact ⟨k + 1, e + 1, by omega, by go_num, by go_num, by omega, HR⟩
              case measure => simp [intOf]; omega
        · have c10' : ¬ (x : Int) = 10 := by omega
          have HR : Hid (e + ends (prv xs (k + 1)) (xs.drop (k + 1)) = E) := Lib.hid (by rw [← HST.out, if_neg (by simp [c13, c10])]; omega)
          go_wp2
          go_round
          case rel => exact ⟨k + 1, e, by omega, by go_num, rfl, by omega, HR⟩
          case measure => simp [intOf]; omega
    · obtain rfl : k = n := by omega
      have hE : e = E := by rw [← hrel.out, HN.out, List.drop_length]; cases prv xs xs.length <;> rfl
      subst hE
      clear hrel
      go_wp2
      go_loop [4, 6] (fun v4 v6 => ∃ (j d : Nat), j ≤ m ∧ v6 = .int .i64 j ∧ v4 = .int .i64 d ∧ Hid (d = tens (L.drop j)) ∧ d ≤ e) (fun _ v6 => m - (intOf v6).toNat)
      case atStart => exact ⟨0, e, Nat.zero_le _, rfl, rfl, Lib.hid (by rw [List.drop_zero]; exact HE.out.symm), Nat.le_refl _⟩
      case round =>
        obtain ⟨j, d, hj, rfl, rfl, hrel, hde⟩ := hrel
        by_cases hlt : j < m
        · have hjj : (j : Int) < m := by omega
          have hjl : j < L.length := by rw [← HM.out]; exact hlt
          rcases HS2.out.src with h0 | ⟨b, off, rfl, hc⟩
          · rw [h0] at hjl; simp at hjl
          have hcell := hc j hjl
          have hst := hrel.out
          rw [tens_drop hjl] at hst
          have hx13 : L.getD j 0 ≠ 13 := H13.out _ (by simp [List.getD, hjl])
          obtain ⟨x, hx⟩ : ∃ x, x = L.getD j 0 := ⟨_, rfl⟩
          rw [← hx] at hcell hst hx13
          have c13' : ¬ (x : Int) = 13 := by omega
          have HST := Lib.hid hst
          clear hc hrel hst hx
          by_cases c10 : x = 10
          · subst c10
            have h1 := HST.out
            rw [if_pos rfl] at h1
            obtain ⟨d', rfl⟩ : ∃ d', d = d' + 1 := ⟨d - 1, by omega⟩
            have HR : Hid (d' = tens (L.drop (j + 1))) := Lib.hid (by omega)
            have hq : d' ≤ e := by omega
            have hsub : IntKind.i64.wrap (((d' + 1 : Nat) : Int) - 1) = (d' : Int) := by rw [IntKind.wrap_i64]; omega
            obtain ⟨d1, hd1⟩ : ∃ d1, d1 = d' + 1 := ⟨_, rfl⟩
            rw [← hd1] at hsub ⊢
            clear h1 hd1 hde
            go_wp2
            go_round
            case rel => exact ⟨j + 1, d', by omega, by go_num, rfl, HR, hq⟩
            case measure => simp [intOf]; omega
          · have c10' : ¬ (x : Int) = 10 := by omega
            have HR : Hid (d = tens (L.drop (j + 1))) := Lib.hid (by have := HST.out; rw [if_neg c10] at this; omega)
            go_wp2
            go_round
            case rel => exact ⟨j + 1, d, by omega, by go_num, rfl, HR, hde⟩
            case measure => simp [intOf]; omega
        · obtain rfl : j = m := by omega
          have hd : d = 0 := by rw [hrel.out, HM.out, List.drop_length]; rfl
          subst hd
          have KS := Lib.hid fun (W : World) (a : Option Addr) (c : Nat) (h1 : Sl W a c L) (h2 : Sl W a2 c2 L) => same_eq a a2 c c2 L W h1 h2
          rw [← HM.out] at KS
          clear hrel
          go_wp2_with (first
            | (go_at_call 28; (with_reducible refine (KL2.out w2 HB2.out a2 c2 HS2.out).mono ?_); rintro e w3 ⟨a3, c3, rfl, hs3, hb3⟩; have HS3 := Lib.hid hs3; have HS4 := Lib.hid (HS2.out.below hb3); have HB3 := Lib.hid (HB2.out.trans (hb3.mono HB2.out.size)); clear hs3 hb3)
            | (go_at_call 14; (with_reducible refine (KS.out w3 a3 c3 HS3.out HS4.out).mono ?_); rintro e w4 ⟨rfl, q, rfl⟩))
          go_ret
          exact ⟨rfl, below_drewN HB3.out q⟩
theorem lines_long (ao : Option Addr) (c n : Nat) (w : World) (hT : TU w) (hn : 3000 < n) (_hm : n ≤ maxLen) :
    Calls Tryd.prog 6 #[.slice ao n c] w fun e w' => e = .returned (.bool true) ∧ Below w.heap.size w w' := by
  have KA := Lib.hid (alive_any w hT)
  have e1 : (3000 : Int) < n := by omega
  clear hT hn
  go_enter Tryd.func6, Tryd.ntmps6
  go_wp2_with (go_at_call 8; (with_reducible refine KA.out.mono ?_); rintro e w1 ⟨rfl, hb⟩)
  go_ret
  exact ⟨rfl, hb⟩
theorem lines_all (ao : Option Addr) (c : Nat) (xs : List Nat) (w : World) (hT : TU w) (h : Sl w ao c xs) :
    Calls Tryd.prog 6 #[.slice ao xs.length c] w fun e w' => e = .returned (.bool true) ∧ Below w.heap.size w w' := by
  by_cases h3 : xs.length ≤ 3000
  · exact lines_main ao c xs w hT h h3
  · exact lines_long ao c xs.length w hT (by omega) (Nat.le_trans h.le h.big)
end Go.Proofs.YtmnkdnlmpgmdgaaDoor
