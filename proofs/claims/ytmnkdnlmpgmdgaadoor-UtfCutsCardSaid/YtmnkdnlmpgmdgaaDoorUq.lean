/-
  Bytes of signs, cut: plainly.
-/
import Derived.Test.YtmnkdnlmpgmdgaaDoorUl
namespace Go.Proofs.YtmnkdnlmpgmdgaaDoor
open Go.RowKit U
set_option maxRecDepth 100000

theorem char_valid {z : Int} (h : wth charL z = true) : Lib.validRune z = true := by
  unfold wth charL at h
  simp only [List.any_cons, List.any_nil, Bool.or_false, Bool.or_eq_true, Bool.and_eq_true, decide_eq_true_eq] at h
  unfold Lib.validRune
  exact decide_eq_true (by omega)
/-- XML's signs among numbers. -/
def chs (zs : List Int) : List Nat := (zs.filter (wth charL)).map Int.toNat
theorem chs_yes {zs : List Int} {k : Nat} (h : k < zs.length) (hv : wth charL (zs.getD k 0) = true) : chs (zs.take (k + 1)) = chs (zs.take k) ++ [(zs.getD k 0).toNat] := by
  have e : [zs.getD k 0].filter (wth charL) = [zs.getD k 0] := by rw [List.filter_cons, hv]; rfl
  rw [take_snoc zs k h, chs, chs, List.filter_append, List.map_append, e]
  rfl
theorem chs_no {zs : List Int} {k : Nat} (h : k < zs.length) (hv : wth charL (zs.getD k 0) = false) : chs (zs.take (k + 1)) = chs (zs.take k) := by
  have e : [zs.getD k 0].filter (wth charL) = [] := by rw [List.filter_cons, hv]; rfl
  rw [take_snoc zs k h, chs, chs, List.filter_append, List.map_append, e, List.map_nil, List.append_nil]
theorem chs_mem (zs : List Int) : ∀ v ∈ chs zs, isSign v ∧ charP v = true := fun v hv => by
  obtain ⟨z, hz, rfl⟩ := List.mem_map.1 hv
  have h1 := (List.mem_filter.1 hz).2
  obtain ⟨v, rfl, h⟩ := sign_of (char_valid h1)
  exact ⟨h, h1⟩
theorem chs_len (zs : List Int) : (chs zs).length ≤ zs.length := by
  rw [chs, List.length_map]; exact List.length_filter_le _ _
/-- Where the signs begin. -/
def st (ss : List Nat) (k : Nat) : Nat := (byt (ss.take k)).length
def sts (ss : List Nat) : List Nat := (List.range ss.length).map (st ss)
theorem sts_len (ss : List Nat) : (sts ss).length = ss.length := by simp [sts]
theorem sts_at {ss : List Nat} {k : Nat} (h : k < ss.length) : (sts ss).getD k 0 = st ss k := by simp [sts, List.getD, h]
theorem sts_snoc (ss : List Nat) (v : Nat) : sts (ss ++ [v]) = sts ss ++ [(byt ss).length] := by
  unfold sts
  rw [List.length_append, List.length_singleton, List.range_succ, List.map_append]
  congr 1
  · refine List.map_congr_left fun k hk => ?_
    have := List.mem_range.1 hk
    unfold st
    rw [List.take_append_of_le_length (by omega)]
  · simp [st]
theorem st_zero (ss : List Nat) : st ss 0 = 0 := rfl
theorem st_succ {ss : List Nat} {k : Nat} (h : k < ss.length) : st ss (k + 1) = st ss k + (enc (ss.getD k 0)).length := byt_snoc h
theorem st_lt {ss : List Nat} {k : Nat} (h : k < ss.length) : st ss k < st ss (k + 1) := by
  have := enc_pos (ss.getD k 0)
  rw [st_succ h]; omega
theorem st_all (ss : List Nat) : st ss ss.length = (byt ss).length := by unfold st; rw [List.take_length]
theorem st_mono {ss : List Nat} {i : Nat} : ∀ {j : Nat}, i ≤ j → j ≤ ss.length → st ss i ≤ st ss j
  | 0, h, _ => by rw [Nat.le_zero.1 h]; exact Nat.le_refl _
  | j + 1, h, hj => by
    rcases Nat.lt_or_ge i (j + 1) with hlt | hge
    · have := st_mono (ss := ss) (i := i) (j := j) (by omega) (by omega)
      have := st_lt (ss := ss) (k := j) (by omega)
      omega
    · rw [show i = j + 1 by omega]; exact Nat.le_refl _
/-- Is a place between two of the first k signs, or at the end? -/
def btw (ss : List Nat) (cut : Nat) : Nat → Bool
  | 0 => decide (cut = (byt ss).length)
  | k + 1 => btw ss cut k || decide (st ss k = cut)
/-- The last place before it where one of the first k signs begins. -/
def lst (ss : List Nat) (cut : Nat) : Nat → Nat
  | 0 => 0
  | k + 1 => if st ss k < cut then st ss k else lst ss cut k
theorem btw_yes {ss : List Nat} {cut : Nat} : ∀ {k : Nat}, k ≤ ss.length → btw ss cut k = true → ∃ j, j ≤ ss.length ∧ st ss j = cut
  | 0, _, h => ⟨ss.length, Nat.le_refl _, by rw [st_all]; exact (of_decide_eq_true h).symm⟩
  | k + 1, hk, h => by
    unfold btw at h
    rcases Bool.or_eq_true _ _ ▸ h with h | h
    · exact btw_yes (by omega) h
    · exact ⟨k, by omega, of_decide_eq_true h⟩
theorem btw_no {ss : List Nat} {cut : Nat} : ∀ {k : Nat}, btw ss cut k = false → cut ≠ (byt ss).length ∧ ∀ j, j < k → st ss j ≠ cut
  | 0, h => ⟨of_decide_eq_false h, fun j hj => absurd hj (Nat.not_lt_zero _)⟩
  | k + 1, h => by
    unfold btw at h
    obtain ⟨h1, h2⟩ := Bool.or_eq_false_iff.1 h
    obtain ⟨h3, h4⟩ := btw_no h1
    refine ⟨h3, fun j hj => ?_⟩
    by_cases e : j = k
    · subst e; exact of_decide_eq_false h2
    · exact h4 j (by omega)
/-- Within which sign a place lies. -/
theorem within_sign {ss : List Nat} {cut : Nat} (hc : cut ≤ (byt ss).length) (h : btw ss cut ss.length = false) : ∃ k, k < ss.length ∧ st ss k < cut ∧ cut < st ss (k + 1) ∧ lst ss cut ss.length = st ss k := by
  obtain ⟨h1, h2⟩ := btw_no h
  have key : ∀ k, k ≤ ss.length → (∀ j, k ≤ j → j < ss.length → cut < st ss j) ∨ (∃ j, j < ss.length ∧ st ss j < cut ∧ (cut < st ss (j + 1))) := by
    intro k
    induction hk : ss.length - k generalizing k with
    | zero => intro hle; exact .inl fun j hj hj2 => by omega
    | succ r ih =>
      intro hle
      rcases ih (k + 1) (by omega) (by omega) with h3 | h3
      · have hne := h2 k (by omega)
        by_cases hlt : st ss k < cut
        · refine .inr ⟨k, by omega, hlt, ?_⟩
          by_cases e : k + 1 = ss.length
          · rw [e, st_all]; omega
          · exact h3 (k + 1) (Nat.le_refl _) (by omega)
        · refine .inl fun j hj hj2 => ?_
          by_cases e : j = k
          · subst e; omega
          · exact h3 j (by omega) hj2
      · exact .inr h3
  have hex : ∃ j, j < ss.length ∧ st ss j < cut ∧ cut < st ss (j + 1) := by
    rcases key 0 (Nat.zero_le _) with h3 | h3
    · exfalso
      by_cases e : ss.length = 0
      · have : (byt ss).length = 0 := by rw [List.eq_nil_of_length_eq_zero e]; rfl
        omega
      · have := h3 0 (Nat.le_refl _) (by omega)
        have h0 := h2 0 (by omega)
        rw [st_zero] at this
        omega
    · exact h3
  obtain ⟨k, hk, hk1, hk2⟩ := hex
  refine ⟨k, hk, hk1, hk2, ?_⟩
  have hl : ∀ d, k + 1 + d ≤ ss.length → lst ss cut (k + 1 + d) = st ss k := by
    intro d
    induction d with
    | zero => intro _; show lst ss cut (k + 1) = _; unfold lst; rw [if_pos hk1]
    | succ d ih =>
      intro hd
      have hm := st_mono (ss := ss) (i := k + 1) (j := k + 1 + d) (by omega) (by omega)
      show lst ss cut (k + 1 + d + 1) = _
      unfold lst
      rw [if_neg (by omega), ih (by omega)]
  have := hl (ss.length - (k + 1)) (by omega)
  rwa [show k + 1 + (ss.length - (k + 1)) = ss.length by omega] at this
theorem al_front (p : Nat → Bool) : ∀ (ss : List Nat) (t : List Nat) (k : Nat), (∀ v ∈ ss, isSign v ∧ p v = true) → al p (byt ss ++ t) k = al p t (k + (byt ss).length)
  | [], t, k, _ => by simp [byt]
  | v :: r, t, k, h => by
    obtain ⟨hv, hp⟩ := h v (by simp)
    have e : byt (v :: r) ++ t = enc v ++ (byt r ++ t) := by simp [byt]
    have hpos := enc_pos v
    have hne : enc v ++ (byt r ++ t) ≠ [] := fun e => by
      have := congrArg List.length e
      simp only [List.length_append, List.length_nil] at this
      omega
    have hn : ¬ ((enc v).length = 0 ∨ p v = false) := fun h1 => by
      rcases h1 with h1 | h1
      · omega
      · rw [hp] at h1; cases h1
    have el : (byt (v :: r)).length = (enc v).length + (byt r).length := by simp [byt]
    rw [e, al_step p hne, nx_enc hv]
    simp only
    rw [if_neg hn, List.drop_left, al_front p r t _ fun x hx => h x (by simp [hx]), el]
    congr 1
    omega
theorem take_st (ss : List Nat) (k : Nat) : (byt ss).take (st ss k) = byt (ss.take k) := by
  conv => lhs; arg 2; rw [← List.take_append_drop k ss]
  rw [byt_app]
  exact List.take_left
theorem cut_yes {ss : List Nat} {cut : Nat} (h : ∀ v ∈ ss, isSign v ∧ charP v = true) (hb : btw ss cut ss.length = true) : alA charP ((byt ss).take cut) = (0, true) := by
  obtain ⟨k, hk, rfl⟩ := btw_yes (Nat.le_refl _) hb
  have := al_front charP (ss.take k) [] 0 fun v hv => h v (List.mem_of_mem_take hv)
  rw [List.append_nil] at this
  unfold alA
  rw [take_st, this]
  rfl
theorem cut_no {ss : List Nat} {cut : Nat} (h : ∀ v ∈ ss, isSign v ∧ charP v = true) (hc : cut ≤ (byt ss).length) (hb : btw ss cut ss.length = false) : alA charP ((byt ss).take cut) = (lst ss cut ss.length, false) := by
  obtain ⟨k, hk, h1, h2, h3⟩ := within_sign hc hb
  rw [st_succ hk] at h2
  have hv := (h (ss.getD k 0) (by simp [List.getD, hk])).1
  have e : (byt ss).take cut = byt (ss.take k) ++ (enc (ss.getD k 0)).take (cut - st ss k) := by
    have e1 : ss = ss.take k ++ (ss.getD k 0 :: ss.drop (k + 1)) := by
      have e0 : ss.getD k 0 = ss[k] := by simp [List.getD, hk]
      rw [e0, ← List.drop_eq_getElem_cons hk, List.take_append_drop]
    have e2 : byt ss = byt (ss.take k) ++ (enc (ss.getD k 0) ++ byt (ss.drop (k + 1))) := by
      conv => lhs; rw [e1]
      rw [byt_app]
      congr 1
    rw [e2, List.take_append, List.take_of_length_le (by unfold st at h1; omega)]
    congr 1
    show (enc (ss.getD k 0) ++ _).take (cut - st ss k) = _
    rw [List.take_append_of_le_length (by omega)]
  have hne : (enc (ss.getD k 0)).take (cut - st ss k) ≠ [] := fun e => by
    have := congrArg List.length e
    rw [List.length_take, List.length_nil] at this
    omega
  have hn := nx_cut hv (j := cut - st ss k) (by omega)
  unfold alA
  rw [e, al_front charP (ss.take k) _ 0 (fun v hv => h v (List.mem_of_mem_take hv)), al_step charP hne, hn]
  rw [if_pos (.inl rfl), h3, Nat.zero_add]
  rfl
end Go.Proofs.YtmnkdnlmpgmdgaaDoor
