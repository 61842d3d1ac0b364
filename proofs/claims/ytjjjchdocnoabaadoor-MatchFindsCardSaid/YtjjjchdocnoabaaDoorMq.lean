/-
  The finder, plainly: three bytes, the last place of three bytes, the search; no program.
-/
import Derived.Test.YtjjjchdocnoabaaDoorMp
namespace Go.Proofs.YtjjjchdocnoabaaDoor.M

/-- The three bytes at a place. -/
def key3 (b : List Nat) (n : Nat) : Nat := b.getD n 0 + 256 * b.getD (n + 1) 0 + 65536 * b.getD (n + 2) 0
theorem key3_lt {b : List Nat} (h : ∀ x ∈ b, x < 256) (n : Nat) : key3 b n < 16777216 := by
  have g : ∀ i, b.getD i 0 < 256 := fun i => by
    rw [List.getD_eq_getElem?_getD]
    cases hi : b[i]? with
    | none => simp
    | some x => simpa using h x (List.mem_of_getElem? hi)
  have := g n
  have := g (n + 1)
  have := g (n + 2)
  unfold key3
  omega
/-- The last place below n with these three bytes. -/
def lastP (b : List Nat) (k : Nat) : Nat → Option Nat
  | 0 => none
  | n + 1 => if key3 b n = k then some n else lastP b k n
theorem lastP_is {b : List Nat} {k : Nat} : ∀ {n p : Nat}, lastP b k n = some p → p < n ∧ key3 b p = k := by
  intro n
  induction n with
  | zero => intro p h; cases h
  | succ n ih =>
    intro p h
    rw [lastP] at h
    split at h
    · cases h; exact ⟨Nat.lt_succ_self _, by assumption⟩
    · have := ih h; exact ⟨by omega, this.2⟩
theorem lastP_ge {b : List Nat} {k q : Nat} : ∀ {n : Nat}, q < n → key3 b q = k → ∃ p, lastP b k n = some p ∧ q ≤ p := by
  intro n
  induction n with
  | zero => intro h _; omega
  | succ n ih =>
    intro h hk
    rw [lastP]
    split
    · exact ⟨n, rfl, by omega⟩
    · have : q ≠ n := fun e => by subst e; contradiction
      exact ih (by omega) hk
/-- .. as the program tells it. -/
def pv (b : List Nat) (k n : Nat) : Int := match lastP b k n with | none => -1 | some p => (p : Int)
theorem pv_bd (b : List Nat) (k n : Nat) : -1 ≤ pv b k n ∧ pv b k n < n := by
  unfold pv
  cases h : lastP b k n with
  | none => simp only; omega
  | some p => have := (lastP_is h).1; simp only; omega
theorem pv_key {b : List Nat} {k n p : Nat} (h : pv b k n = (p : Int)) : key3 b p = k := by
  unfold pv at h
  cases hl : lastP b k n with
  | none => rw [hl] at h; simp only at h; omega
  | some q =>
    rw [hl] at h
    simp only at h
    obtain rfl : q = p := by omega
    exact (lastP_is hl).2
theorem pv_ge {b : List Nat} {k q n : Nat} (h : q < n) (hk : key3 b q = k) : (q : Int) ≤ pv b k n := by
  obtain ⟨p, hp, hq⟩ := lastP_ge h hk
  unfold pv
  rw [hp]
  simp only
  omega
theorem four_key {b : List Nat} {at_ d : Nat} (h : four b at_ d) : key3 b (at_ - d) = key3 b at_ := by
  obtain ⟨_, h1, h2, h3⟩ := h
  have a0 := h3 0 (by omega)
  have a1 := h3 1 (by omega)
  have a2 := h3 2 (by omega)
  unfold key3
  rw [show at_ - d + 1 = at_ + 1 - d by omega, show at_ - d + 2 = at_ + 2 - d by omega, ← a1, ← a2]
  simp only [Nat.add_zero] at a0
  rw [← a0]
/-- Same tells all that are the same. -/
theorem same_ge (b : List Nat) (dist : Nat) : ∀ most at_ n, n ≤ most → at_ + n ≤ b.length → 1 ≤ dist → dist ≤ at_ → (∀ k, k < n → b.getD (at_ + k) 0 = b.getD (at_ + k - dist) 0) → n ≤ same b at_ dist most := by
  intro most
  induction most with
  | zero => intro at_ n h _ _ _ _; rw [same]; exact h
  | succ m ih =>
    intro at_ n hn hl h1 h2 hs
    cases n with
    | zero => omega
    | succ n =>
      have h0 := hs 0 (by omega)
      rw [Nat.add_zero] at h0
      rw [same, if_pos ⟨by omega, h1, h2, h0⟩]
      have := ih (at_ + 1) n (by omega) (by omega) h1 (by omega) fun k hk => by
        have := hs (k + 1) (by omega)
        rwa [show at_ + (k + 1) = at_ + 1 + k by omega] at this
      omega

/-- What a copy so long, so far back, may be at a place. -/
def Cop (b : List Nat) (at_ L D : Nat) : Prop := 1 ≤ D ∧ D ≤ at_ ∧ D ≤ 32768 ∧ at_ + L ≤ b.length ∧ ∀ k, k < L → b.getD (at_ + k) 0 = b.getD (at_ + k - D) 0
/-- While places are looked at. -/
structure Lk (b : List Nat) (at_ most : Nat) (cop : Bool) (pl : Int) (left L D : Nat) : Prop where
  low : -1 ≤ pl
  high : pl < at_
  le : L ≤ most
  best : (L = 0 ∧ D = 0) ∨ Cop b at_ L D
  keyed : ∀ p : Nat, pl = p → key3 b p = key3 b at_
  look : cop = false → ∀ d, four b at_ d → ((at_ - d : Nat) : Int) ≤ pl ∨ 4 ≤ L
  many : cop = false → pl + 32769 ≤ at_ + left

theorem Lk.start {b : List Nat} {at_ most : Nat} {cop : Bool} {left : Nat} (hc : cop = false → left = 32768) : Lk b at_ most cop (pv b (key3 b at_) at_) left 0 0 := by
  have := pv_bd b (key3 b at_) at_
  refine ⟨this.1, this.2, Nat.zero_le _, .inl ⟨rfl, rfl⟩, fun p h => pv_key h, fun _ d h => .inl ?_, fun h => ?_⟩
  · refine pv_ge ?_ (four_key h)
    have := h.2.1
    have := h.2.2.1
    omega
  · rw [hc h]; omega
theorem Lk.none {b : List Nat} {at_ most : Nat} {cop : Bool} {left : Nat} (hc : cop = false → left = 32768) (hl : b.length < at_ + 3) : Lk b at_ most cop (-1) left 0 0 := by
  refine ⟨Int.le_refl _, by omega, Nat.zero_le _, .inl ⟨rfl, rfl⟩, fun p h => by omega, fun _ d h => ?_, fun h => ?_⟩
  · have := h.1; omega
  · rw [hc h]; omega
/-- The next place, behind a look. -/
theorem Lk.next {b : List Nat} {at_ most : Nat} {cop : Bool} {p left L D L' D' : Nat} (h : Lk b at_ most cop p (left + 1) L D) (hL : L ≤ L') (hm : L' ≤ most) (hb : (L' = 0 ∧ D' = 0) ∨ Cop b at_ L' D') (h4 : four b at_ (at_ - p) → 4 ≤ L') :
    Lk b at_ most cop (pv b (key3 b p) p) left L' D' := by
  have hk := h.keyed p rfl
  have hbd := pv_bd b (key3 b p) p
  have hh := h.high
  refine ⟨hbd.1, by omega, hm, hb, fun q hq => by rw [pv_key hq, hk], fun hc d hf => ?_, fun hc => ?_⟩
  · rcases h.look hc d hf with h1 | h1
    · by_cases e : at_ - d = p
      · right
        apply h4
        have h2 := hf.2.2.1
        rw [show at_ - p = d by omega]
        exact hf
      · left
        exact pv_ge (by omega) (by rw [four_key hf, hk])
    · exact .inr (by omega)
  · have := h.many hc
    omega
/-- What is told at the end of the search, if no copy was told so far: a copy of four, or there is none. -/
theorem Lk.done {b : List Nat} {at_ most : Nat} {cop : Bool} {pl : Int} {left L D : Nat} (h : Lk b at_ most cop pl left L D) (hc : cop = false) (hm : most = min 258 (b.length - at_)) (ha : at_ ≤ 32768)
    (hend : left = 0 ∨ most ≤ L ∨ pl = -1) : L ≤ 3 → ∀ d, ¬ four b at_ d := by
  intro hL d hf
  rcases h.look hc d hf with h1 | h1
  · rcases hend with e | e | e
    · have := h.many hc
      omega
    · have := hf.1
      omega
    · omega
  · omega
/-- A place looked at: the byte behind the best copy is another one, so there are no more the same. -/
theorem four_byte {b : List Nat} {at_ p L : Nat} (h : four b at_ (at_ - p)) (hp : p < at_) (hne : b.getD (p + L) 0 ≠ b.getD (at_ + L) 0) : 4 ≤ L := by
  refine Decidable.byContradiction fun hL => hne ?_
  have := h.2.2.2 L (by omega)
  rw [this, show at_ + L - (at_ - p) = p + L by omega]
theorem four_same {b : List Nat} {at_ p most : Nat} (h : four b at_ (at_ - p)) (hm : 4 ≤ most) : 4 ≤ same b at_ (at_ - p) most :=
  same_ge b _ most at_ 4 hm h.1 h.2.1 h.2.2.1 h.2.2.2
theorem cop_same {b : List Nat} {at_ p most : Nat} (hp : p < at_) (ha : at_ ≤ 32768) (hl : at_ ≤ b.length) : Cop b at_ (same b at_ (at_ - p) most) (at_ - p) :=
  ⟨by omega, by omega, by omega, same_end b _ most at_ hl, fun k hk => (same_at b _ most at_ k hk).1⟩

/-- The tokens so far: the bytes up to a place; a copy among them, or none could be. -/
structure Sof (b : List Nat) (at_ : Nat) (r : List Tok) (cop : Bool) : Prop where
  ex : ex r [] = some (b.take at_)
  le : at_ ≤ b.length
  lit : ∀ t ∈ r, t.lit < 256
  yes : cop = true → ∃ t ∈ r, t.len ≠ 0
  no : cop = false → ∀ a, a < at_ → ∀ d, ¬ four b a d
/-- What is told at a place. -/
structure Told (b : List Nat) (at_ : Nat) (cop : Bool) (t : Tok) : Prop where
  is : t = ⟨b.getD at_ 0, 0, 0⟩ ∨ (t.lit = 0 ∧ 3 ≤ t.len ∧ t.len ≤ 258 ∧ Cop b at_ t.len t.dist)
  no : cop = false → t.len = 0 → ∀ d, ¬ four b at_ d
theorem Sof.start (b : List Nat) : Sof b 0 [] false := ⟨rfl, Nat.zero_le _, (fun t h => by cases h), (fun h => by cases h), (fun _ a h => by omega)⟩
theorem Told.lit {b : List Nat} {at_ : Nat} {cop : Bool} (hc : cop = true) : Told b at_ cop ⟨b.getD at_ 0, 0, 0⟩ := ⟨.inl rfl, fun h => by rw [hc] at h; cases h⟩
theorem Told.tells {b : List Nat} {at_ : Nat} {cop : Bool} {t : Tok} (h : Told b at_ cop t) (ha : at_ < b.length) : at_ + M.tells t ≤ b.length ∧ M.tells t ≤ 258 := by
  rcases h.is with rfl | ⟨_, h3, h4, h5⟩
  · unfold M.tells; simp only; omega
  · have := h5.2.2.2.1
    unfold M.tells
    omega
theorem Sof.step {b : List Nat} {at_ : Nat} {r : List Tok} {cop : Bool} {t : Tok} (hb : ∀ x ∈ b, x < 256) (h : Sof b at_ r cop) (k : Told b at_ cop t) (ha : at_ < b.length) : Sof b (at_ + M.tells t) (r ++ [t]) (cop || decide (0 < t.len)) := by
  have hl : (b.take at_).length = at_ := by rw [List.length_take]; omega
  refine ⟨?_, (k.tells ha).1, ?_, ?_, ?_⟩
  · rw [ex_snoc h.ex, hl]
    rcases k.is with rfl | ⟨h0, h3, h4, h5⟩
    · rw [if_pos ⟨.inl ⟨rfl, rfl⟩, Nat.zero_le _⟩, one_lit b at_ ha]; rfl
    · obtain ⟨a1, l1, d1⟩ := t
      simp only at h0 h3 h4 h5
      subst h0
      rw [if_pos ⟨.inr ⟨h3, h4, h5.1, h5.2.2.1, rfl⟩, h5.2.1⟩, one_copy b at_ d1 l1 (by omega) h5.2.2.2.1 h5.1 h5.2.1 h5.2.2.2.2]
      unfold M.tells
      simp only
      rw [Nat.max_eq_left (by omega)]
  · intro u hu
    rcases List.mem_append.1 hu with hu | hu
    · exact h.lit u hu
    · obtain rfl := List.mem_singleton.1 hu
      rcases k.is with e | ⟨h0, _⟩
      · rw [e]
        simp only
        rw [List.getD_eq_getElem?_getD]
        cases hi : b[at_]? with
        | none => simp
        | some x => simpa using hb x (List.mem_of_getElem? hi)
      · rw [h0]; omega
  · intro hc
    rcases Bool.or_eq_true _ _ ▸ hc with hc | hc
    · obtain ⟨u, hu, h0⟩ := h.yes hc
      exact ⟨u, List.mem_append_left _ hu, h0⟩
    · exact ⟨t, List.mem_append_right _ (List.mem_singleton.2 rfl), by have := of_decide_eq_true hc; omega⟩
  · intro hc a hla d
    obtain ⟨h1, h2⟩ := Bool.or_eq_false_iff.1 hc
    have h0 : t.len = 0 := by have := of_decide_eq_false h2; omega
    have ht : M.tells t = 1 := by unfold M.tells; rw [h0]; rfl
    rw [ht] at hla
    by_cases e : a < at_
    · exact h.no h1 a e d
    · obtain rfl : a = at_ := by omega
      exact k.no h1 h0 d
theorem Sof.done {b : List Nat} {at_ : Nat} {r : List Tok} {cop : Bool} (h : Sof b at_ r cop) (ha : b.length ≤ at_) : M.ex r [] = some b ∧ ((∃ t ∈ r, t.len ≠ 0) ∨ NoFour b) := by
  obtain rfl : at_ = b.length := Nat.le_antisymm h.le ha
  refine ⟨by have := h.ex; rwa [List.take_length] at this, ?_⟩
  cases cop with
  | true => exact .inl (h.yes rfl)
  | false =>
    refine .inr fun a d _ hf => h.no rfl a ?_ d hf
    have := hf.1
    omega
end Go.Proofs.YtjjjchdocnoabaaDoor.M
