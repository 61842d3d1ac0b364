
/-
  Tokens, plainly: what they tell, one behind the other; no program.
-/
namespace Go.Proofs.YtjjjchdocnoabaaDoor.M

/-- A byte, or a copy. -/
structure Tok where
  lit : Nat
  len : Nat
  dist : Nat

/-- Bytes that stand so far back come again. -/
def back (far : Nat) : Nat → List Nat → List Nat
  | 0, l => l
  | n + 1, l => back far n (l ++ [l.getD (l.length - far) 0])
theorem back_len (far n : Nat) : ∀ l, (back far n l).length = l.length + n := by
  induction n with
  | zero => intro l; rfl
  | succ n ih => intro l; rw [back, ih]; simp; omega
theorem back_succ (far n : Nat) : ∀ l, back far (n + 1) l = back far n l ++ [(back far n l).getD ((back far n l).length - far) 0] := by
  induction n with
  | zero => intro l; rfl
  | succ n ih => intro l; rw [back, ih]; rfl
/-- The bytes ahead stay. -/
theorem back_take (far n : Nat) (l : List Nat) : (back far n l).take l.length = l := by
  induction n with
  | zero => simp [back]
  | succ n ih =>
    rw [back_succ, List.take_append_of_le_length (by rw [back_len]; omega)]
    exact ih
theorem getD_app_right (p l : List Nat) (i : Nat) : (p ++ l).getD (p.length + i) 0 = l.getD i 0 := by
  simp [List.getD_eq_getElem?_getD, List.getElem?_append_right]
/-- What stands ahead doesn't matter where a copy goes back no farther than there are bytes. -/
theorem back_shift (far n : Nat) (p : List Nat) : ∀ l, far ≤ l.length → back far n (p ++ l) = p ++ back far n l := by
  induction n with
  | zero => intro l _; rfl
  | succ n ih =>
    intro l h
    rw [back, back]
    have e : (p ++ l).getD ((p ++ l).length - far) 0 = l.getD (l.length - far) 0 := by
      rw [List.length_append, show p.length + l.length - far = p.length + (l.length - far) by omega, getD_app_right]
    rw [e, List.append_assoc]
    exact ih _ (by simp; omega)

/-- Is a token one? -/
def Right (t : Tok) : Prop := (t.len = 0 ∧ t.dist = 0) ∨ (3 ≤ t.len ∧ t.len ≤ 258 ∧ 1 ≤ t.dist ∧ t.dist ≤ 32768 ∧ t.lit = 0)
instance (t : Tok) : Decidable (Right t) := inferInstanceAs (Decidable (_ ∨ _))
/-- How many bytes a token tells. -/
def tells (t : Tok) : Nat := max t.len 1
theorem tells_pos (t : Tok) : 1 ≤ tells t := Nat.le_max_right _ _
/-- The bytes so far, and those that a token tells. -/
def one (t : Tok) (l : List Nat) : List Nat := if t.len = 0 then l ++ [t.lit] else back t.dist t.len l
theorem one_len (t : Tok) (l : List Nat) : (one t l).length = l.length + tells t := by
  unfold one tells
  split
  · rename_i h; simp [h]
  · rw [back_len]; omega
theorem one_take (t : Tok) (l : List Nat) : (one t l).take l.length = l := by
  unfold one
  split
  · simp
  · exact back_take _ _ _
theorem one_shift (t : Tok) (p l : List Nat) (h : t.dist ≤ l.length) : one t (p ++ l) = p ++ one t l := by
  unfold one
  split
  · rw [List.append_assoc]
  · exact back_shift _ _ _ _ h

/-- What tokens tell behind these bytes, if they are right, and go back no farther than there are bytes. -/
def ex : List Tok → List Nat → Option (List Nat)
  | [], l => some l
  | t :: ts, l => if Right t ∧ t.dist ≤ l.length then ex ts (one t l) else none
theorem ex_append (x y : List Tok) : ∀ l, ex (x ++ y) l = (ex x l).bind (ex y) := by
  induction x with
  | nil => intro l; rfl
  | cons t x ih =>
    intro l
    rw [List.cons_append, ex, ex]
    split
    · exact ih _
    · rfl
theorem ex_snoc {x : List Tok} {l m : List Nat} (h : ex x l = some m) (t : Tok) : ex (x ++ [t]) l = if Right t ∧ t.dist ≤ m.length then some (one t m) else none := by
  rw [ex_append, h]
  rfl
def sum (x : List Tok) : Nat := (x.map tells).sum
theorem sum_cons (t : Tok) (x : List Tok) : sum (t :: x) = tells t + sum x := by simp [sum]
theorem sum_snoc (x : List Tok) (t : Tok) : sum (x ++ [t]) = sum x + tells t := by simp [sum]
theorem len_le_sum (x : List Tok) : x.length ≤ sum x := by
  induction x with
  | nil => exact Nat.le_refl _
  | cons t x ih => rw [sum_cons, List.length_cons]; have := tells_pos t; omega
/-- A copy makes the tokens fewer than the bytes. -/
theorem len_lt_sum {x : List Tok} (h : ∃ t ∈ x, 1 < tells t) : x.length < sum x := by
  induction x with
  | nil => obtain ⟨t, ht, _⟩ := h; cases ht
  | cons t x ih =>
    rw [sum_cons, List.length_cons]
    obtain ⟨u, hu, h1⟩ := h
    have := tells_pos t
    rcases List.mem_cons.1 hu with rfl | hu
    · have := len_le_sum x; omega
    · have := ih ⟨u, hu, h1⟩; omega
theorem ex_len {x : List Tok} : ∀ {l m : List Nat}, ex x l = some m → m.length = l.length + sum x := by
  induction x with
  | nil => intro l m h; cases h; rfl
  | cons t x ih =>
    intro l m h
    rw [ex] at h
    split at h
    · rw [ih h, one_len, sum_cons]; omega
    · cases h
theorem ex_take {x : List Tok} : ∀ {l m : List Nat}, ex x l = some m → m.take l.length = l := by
  induction x with
  | nil => intro l m h; cases h; exact List.take_length
  | cons t x ih =>
    intro l m h
    rw [ex] at h
    split at h
    · have h1 := ih h
      have h2 := one_take t l
      have h3 := one_len t l
      have : (m.take (one t l).length).take l.length = m.take l.length := by rw [List.take_take, Nat.min_eq_left (by omega)]
      rw [← this, h1, h2]
    · cases h
/-- Bytes ahead don't matter. -/
theorem ex_shift (p : List Nat) {x : List Tok} : ∀ {l m : List Nat}, ex x l = some m → ex x (p ++ l) = some (p ++ m) := by
  induction x with
  | nil => intro l m h; cases h; rfl
  | cons t x ih =>
    intro l m h
    rw [ex] at h ⊢
    split at h
    · rename_i hr
      rw [if_pos ⟨hr.1, by rw [List.length_append]; omega⟩, one_shift t p l hr.2]
      exact ih h
    · cases h
/-- Two rows of tokens, one behind the other. -/
theorem ex_both {x y : List Tok} {a b : List Nat} (hx : ex x [] = some a) (hy : ex y [] = some b) : ex (x ++ y) [] = some (a ++ b) := by
  rw [ex_append, hx]
  have := ex_shift a hy
  rw [List.append_nil] at this
  exact this
/-- The first ones of tokens tell the bytes' beginning. -/
theorem ex_first {x : List Tok} {a : List Nat} (h : ex x [] = some a) (k : Nat) : ex (x.take k) [] = some (a.take (sum (x.take k))) ∧ sum (x.take k) ≤ a.length := by
  have h0 : ex (x.take k ++ x.drop k) [] = some a := by rw [List.take_append_drop]; exact h
  rw [ex_append] at h0
  cases h1 : ex (x.take k) [] with
  | none => rw [h1] at h0; cases h0
  | some m =>
    rw [h1] at h0
    have h2 : ex (x.drop k) m = some a := h0
    have h3 := ex_take h2
    have h4 := ex_len h1
    have h5 := ex_len h2
    simp at h4
    rw [← h4]
    exact ⟨by rw [h3], by omega⟩

/-- What tokens tell up to a limit: the bytes, or the first fault. -/
def exL (lim : Nat) : List Tok → List Nat → Sum Nat (List Nat)
  | [], l => .inr l
  | t :: ts, l => if ¬ (Right t ∧ t.dist ≤ l.length) then .inl 10 else if lim < l.length + tells t then .inl 14 else exL lim ts (one t l)
theorem exL_ok {lim : Nat} {x : List Tok} : ∀ {l m : List Nat}, ex x l = some m → m.length ≤ lim → exL lim x l = .inr m := by
  induction x with
  | nil => intro l m h _; cases h; rfl
  | cons t x ih =>
    intro l m h hl
    rw [ex] at h
    split at h
    · rename_i hr
      have h1 := ex_len h
      rw [one_len] at h1
      rw [exL, if_neg (by simpa using hr), if_neg (by omega)]
      exact ih h hl
    · cases h
theorem exL_is {lim : Nat} {x : List Tok} : ∀ {l m : List Nat}, exL lim x l = .inr m → ex x l = some m ∧ (l.length ≤ lim → m.length ≤ lim) := by
  induction x with
  | nil => intro l m h; cases h; exact ⟨rfl, id⟩
  | cons t x ih =>
    intro l m h
    rw [exL] at h
    split at h
    · cases h
    · rename_i hr
      split at h
      · cases h
      · have h1 := ih h
        have hr' : Right t ∧ t.dist ≤ l.length := Decidable.not_not.1 hr
        rw [ex, if_pos hr']
        exact ⟨h1.1, fun _ => h1.2 (by rw [one_len]; omega)⟩

/-- How many bytes from a place on are those so far back. -/
def same (b : List Nat) (at_ dist : Nat) : Nat → Nat
  | 0 => 0
  | most + 1 => if at_ < b.length ∧ 1 ≤ dist ∧ dist ≤ at_ ∧ b.getD at_ 0 = b.getD (at_ - dist) 0 then 1 + same b (at_ + 1) dist most else 0
theorem same_le (b : List Nat) (dist : Nat) : ∀ most at_, same b at_ dist most ≤ most := by
  intro most
  induction most with
  | zero => intro at_; exact Nat.le_refl _
  | succ m ih => intro at_; rw [same]; split; have := ih (at_ + 1); omega; omega
theorem same_end (b : List Nat) (dist : Nat) : ∀ most at_, at_ ≤ b.length → at_ + same b at_ dist most ≤ b.length := by
  intro most
  induction most with
  | zero => intro at_ h; exact h
  | succ m ih => intro at_ h; rw [same]; split; have := ih (at_ + 1) (by omega); omega; omega
theorem same_at (b : List Nat) (dist : Nat) : ∀ most at_ k, k < same b at_ dist most → b.getD (at_ + k) 0 = b.getD (at_ + k - dist) 0 ∧ 1 ≤ dist ∧ dist ≤ at_ := by
  intro most
  induction most with
  | zero => intro at_ k h; simp [same] at h
  | succ m ih =>
    intro at_ k h
    rw [same] at h
    split at h
    · rename_i hc
      cases k with
      | zero => exact ⟨hc.2.2.2, hc.2.1, hc.2.2.1⟩
      | succ k =>
        have := ih (at_ + 1) k (by omega)
        rw [show at_ + (k + 1) = at_ + 1 + k by omega]
        exact ⟨this.1, hc.2.1, hc.2.2.1⟩
    · omega
/-- A copy tells the bytes on: those from a place on that are the same so far back. -/
theorem back_same (b : List Nat) (dist : Nat) : ∀ n at_, at_ + n ≤ b.length → 1 ≤ dist → dist ≤ at_ → (∀ k, k < n → b.getD (at_ + k) 0 = b.getD (at_ + k - dist) 0) → back dist n (b.take at_) = b.take (at_ + n) := by
  intro n
  induction n with
  | zero => intro at_ _ _ _ _; rfl
  | succ n ih =>
    intro at_ hl h1 hd hs
    have hlen : (b.take at_).length = at_ := by rw [List.length_take]; omega
    have h0 := hs 0 (by omega)
    have hstep : b.take at_ ++ [(b.take at_).getD ((b.take at_).length - dist) 0] = b.take (at_ + 1) := by
      rw [hlen, List.take_succ_eq_append_getElem (by omega)]
      congr 2
      rw [Nat.add_zero] at h0
      have e1 : b[at_] = b.getD at_ 0 := by rw [List.getD_eq_getElem?_getD, List.getElem?_eq_getElem (by omega)]; rfl
      rw [e1, h0]
      simp only [List.getD_eq_getElem?_getD]
      rw [List.getElem?_take_of_lt (by omega)]
    rw [back, hstep, ih (at_ + 1) (by omega) h1 (by omega) fun k hk => by
      have := hs (k + 1) (by omega)
      rwa [show at_ + (k + 1) = at_ + 1 + k by omega] at this]
    congr 1
    omega
/-- A byte more, or a copy of what is the same: the bytes' beginning grows. -/
theorem one_lit (b : List Nat) (at_ : Nat) (h : at_ < b.length) : one ⟨b.getD at_ 0, 0, 0⟩ (b.take at_) = b.take (at_ + 1) := by
  unfold one
  rw [if_pos rfl, List.take_succ_eq_append_getElem h]
  congr 2
  rw [List.getD_eq_getElem?_getD, List.getElem?_eq_getElem h]; rfl
theorem one_copy (b : List Nat) (at_ dist n : Nat) (hn : 1 ≤ n) (hl : at_ + n ≤ b.length) (h1 : 1 ≤ dist) (hd : dist ≤ at_) (hs : ∀ k, k < n → b.getD (at_ + k) 0 = b.getD (at_ + k - dist) 0) : one ⟨0, n, dist⟩ (b.take at_) = b.take (at_ + n) := by
  unfold one
  rw [if_neg (by show ¬ n = 0; omega)]
  exact back_same b dist n at_ hl h1 hd hs

/-- Four bytes or more stood so far back. -/
def four (b : List Nat) (at_ d : Nat) : Prop := at_ + 4 ≤ b.length ∧ 1 ≤ d ∧ d ≤ at_ ∧ ∀ k, k < 4 → b.getD (at_ + k) 0 = b.getD (at_ + k - d) 0
/-- No such place within reach. -/
def NoFour (b : List Nat) : Prop := ∀ at_ d, d ≤ 32768 → ¬ four b at_ d
/-- A row that comes again has one. -/
theorem rep_four {b : List Nat} (hb : 4 ≤ b.length) (hl : b.length ≤ 32768) (r : List Nat) : ¬ NoFour (b ++ (b ++ r)) := by
  intro h
  refine h b.length b.length hl ⟨by simp; omega, by omega, Nat.le_refl _, fun k hk => ?_⟩
  rw [show b.length + k - b.length = k by omega, getD_app_right]
  simp only [List.getD_eq_getElem?_getD]
  rw [List.getElem?_append_left (by omega), List.getElem?_append_left (by omega)]
end Go.Proofs.YtjjjchdocnoabaaDoor.M
