import Derived.Test.YtnnkegpnjedneaaDoorX2
import Derived.Test.YtnnkegpnjedneaaDoorX3
import Derived.WalkLawsBesides
import Derived.StillTailTactics
import Derived.Deep.LoopGhost
import Derived.Laws.CopyOwn
import Derived.Laws.Bits64b
import Derived.Lib.AppendZerosOnto
import Derived.Shelf.Spec.SlicesGrow
/-
  The reading of packed bytes, plainly: no program.
-/
namespace Go.Proofs.YtnnkegpnjedneaaDoor

/-- How far the reading has come. -/
structure Sta where
  at_ : Nat
  out : List Nat
  steps : Nat
  blocks : Nat

/-- An answer and how far, or the first fault. -/
inductive Res (α : Type) where
  | bad (e : Nat)
  | ok (a : α) (s : Sta)

section
variable {α β γ : Type}
def Res.bind (r : Res α) (k : α → Sta → Res β) : Res β :=
  match r with
  | .bad e => .bad e
  | .ok a s => k a s
theorem Res.bind_ok {a : α} {s : Sta} {k : α → Sta → Res β} : (Res.ok a s).bind k = k a s := rfl
theorem Res.bind_bad {e : Nat} {k : α → Sta → Res β} : (Res.bad e : Res α).bind k = .bad e := rfl
theorem Res.bind_is {r : Res α} {k : α → Sta → Res β} {b : β} {t : Sta} (h : r.bind k = .ok b t) : ∃ a s, r = .ok a s ∧ k a s = .ok b t := by
  cases r with
  | bad e => cases h
  | ok a s => exact ⟨a, s, rfl, h⟩

/-- Rounds, up to the one that says that it is the last. -/
def iter (f : α → Sta → Res (Bool × α)) : Nat → α → Sta → Res α
  | 0, _, _ => .bad 0
  | n + 1, a, s => (f a s).bind fun x s' => if x.1 then .ok x.2 s' else iter f n x.2 s'
def run (L : Nat) (f : α → Sta → Res (Bool × α)) (a : α) (s : Sta) : Res α := iter f (L + 1 - s.at_) a s

/-- Each round takes a bit at least. -/
def Takes (L : Nat) (f : α → Sta → Res (Bool × α)) : Prop := ∀ a s x s', s.at_ ≤ L → f a s = .ok x s' → s.at_ < s'.at_ ∧ s'.at_ ≤ L
theorem iter_more {L : Nat} {f : α → Sta → Res (Bool × α)} (hf : Takes L f) : ∀ m n a s, s.at_ ≤ L → L + 1 - s.at_ ≤ m → L + 1 - s.at_ ≤ n → iter f m a s = iter f n a s := by
  intro m
  induction m with
  | zero => intro n a s h1 h2; omega
  | succ m ih =>
    intro n a s h1 h2 h3
    obtain ⟨k, rfl⟩ : ∃ k, n = k + 1 := ⟨n - 1, by omega⟩
    unfold iter
    cases hx : f a s with
    | bad e => rfl
    | ok x s' =>
      obtain ⟨h4, h5⟩ := hf a s x s' h1 hx
      simp only [Res.bind_ok]
      split
      · rfl
      · exact ih k x.2 s' h5 (by omega) (by omega)
theorem run_eq {L : Nat} {f : α → Sta → Res (Bool × α)} (hf : Takes L f) (a : α) {s : Sta} (hs : s.at_ ≤ L) : run L f a s = (f a s).bind fun x s' => if x.1 then .ok x.2 s' else run L f x.2 s' := by
  unfold run
  rw [show L + 1 - s.at_ = (L - s.at_) + 1 by omega, iter]
  cases hx : f a s with
  | bad e => rfl
  | ok x s' =>
    obtain ⟨h4, h5⟩ := hf a s x s' hs hx
    simp only [Res.bind_ok]
    split
    · rfl
    · exact iter_more hf _ _ _ _ h5 (by omega) (by omega)

/-- Two readings are one, or the first one ends with a fault where the other comes beyond. -/
def Rl (E : Nat) (P : Sta → Prop) (r' r : Res α) : Prop := r' = r ∨ (r' = .bad E ∧ ∀ a s, r = .ok a s → P s)
theorem Rl.bind {E : Nat} {P : Sta → Prop} {r' r : Res α} {k' k : α → Sta → Res β} (h : Rl E P r' r) (hk : ∀ a s, r' = .ok a s → r = .ok a s → Rl E P (k' a s) (k a s))
    (hp : ∀ a s b t, r = .ok a s → P s → k a s = .ok b t → P t) : Rl E P (r'.bind k') (r.bind k) := by
  rcases h with h | ⟨h1, h2⟩
  · subst h
    cases r' with
    | bad e => exact .inl rfl
    | ok a s => exact hk a s rfl rfl
  · subst h1
    refine .inr ⟨rfl, fun b t hb => ?_⟩
    obtain ⟨a, s, hr, hk'⟩ := Res.bind_is hb
    exact hp a s b t hr (h2 a s hr) hk'
theorem Rl.ok {E : Nat} {P : Sta → Prop} {r' r : Res α} (h : Rl E P r' r) {a : α} {s : Sta} (hr : r = .ok a s) (hn : ¬ P s) : r' = .ok a s := by
  rcases h with h | ⟨_, h2⟩
  · rw [h, hr]
  · exact absurd (h2 a s hr) hn
theorem Rl.back {E : Nat} {P : Sta → Prop} {r' r : Res α} (h : Rl E P r' r) {a : α} {s : Sta} (hr : r' = .ok a s) : r = .ok a s := by
  rcases h with h | ⟨h1, _⟩
  · rw [← h, hr]
  · rw [hr] at h1; cases h1

/-- What holds of any piece of the reading. -/
structure Le (L lim : Nat) (s s' : Sta) : Prop where
  at_ : s.at_ ≤ s'.at_
  end_ : s'.at_ ≤ L
  out : s.out.length ≤ s'.out.length
  lim_ : s.out.length ≤ lim → s'.out.length ≤ lim
  steps : s'.steps + s.at_ ≤ s.steps + s'.at_
  blocks : s'.blocks + s.at_ ≤ s.blocks + s'.at_
  bytes : Bs s.out → Bs s'.out
theorem Le.refl {L : Nat} (lim : Nat) {s : Sta} (h : s.at_ ≤ L) : Le L lim s s := ⟨Nat.le_refl _, h, Nat.le_refl _, id, Nat.le_refl _, Nat.le_refl _, id⟩
theorem Le.trans {L lim : Nat} {a b c : Sta} (h : Le L lim a b) (k : Le L lim b c) : Le L lim a c := by
  have := h.at_; have := h.out; have := h.steps; have := h.blocks; have := k.at_; have := k.out; have := k.steps; have := k.blocks
  exact ⟨by omega, k.end_, by omega, fun x => k.lim_ (h.lim_ x), by omega, by omega, fun x => k.bytes (h.bytes x)⟩
theorem Le.to {L lim : Nat} {s : Sta} {a : Nat} (h : s.at_ ≤ a) (hL : a ≤ L) : Le L lim s { s with at_ := a } :=
  ⟨h, hL, Nat.le_refl _, id, by show s.steps + s.at_ ≤ s.steps + a; omega, by show s.blocks + s.at_ ≤ s.blocks + a; omega, id⟩
/-- Such a piece. -/
def Pr (L lim : Nat) (f : Sta → Res α) : Prop := ∀ s a s', s.at_ ≤ L → f s = .ok a s' → Le L lim s s'
theorem Pr.bind {L lim : Nat} {f : Sta → Res α} {k : α → Sta → Res β} (h : Pr L lim f) (hk : ∀ a, Pr L lim (k a)) : Pr L lim fun s => (f s).bind k := by
  intro s b t hs hb
  obtain ⟨a, s', h1, h2⟩ := Res.bind_is hb
  have h3 := h s a s' hs h1
  exact h3.trans (hk a s' b t h3.end_ h2)
theorem Pr.run {L lim : Nat} {f : α → Sta → Res (Bool × α)} (hf : Takes L f) (h : ∀ a, Pr L lim (f a)) (a : α) : Pr L lim (run L f a) := by
  have key : ∀ n s a b t, L - s.at_ ≤ n → s.at_ ≤ L → YtnnkegpnjedneaaDoor.run L f a s = .ok b t → Le L lim s t := by
    intro n
    induction n with
    | zero =>
      intro s a b t hn hs hr
      rw [run_eq hf a hs] at hr
      obtain ⟨x, s', h1, h2⟩ := Res.bind_is hr
      have := hf a s x s' hs h1
      omega
    | succ n ih =>
      intro s a b t hn hs hr
      rw [run_eq hf a hs] at hr
      obtain ⟨x, s', h1, h2⟩ := Res.bind_is hr
      have h3 := hf a s x s' hs h1
      have h4 := h a s x s' hs h1
      split at h2
      · cases h2; exact h4
      · exact h4.trans (ih s' x.2 b t (by omega) h3.2 h2)
  intro s b t hs hr
  exact key _ s a b t (Nat.le_refl _) hs hr

/-- Two rows of rounds. -/
theorem Rl.run {E L' L lim : Nat} {P : Sta → Prop} {f' f : α → Sta → Res (Bool × α)} (hL : L' ≤ L) (hf' : Takes L' f') (hf : Takes L f) (hpr : ∀ a, Pr L lim (f a)) (hP : ∀ s t, Le L lim s t → P s → P t)
    (h : ∀ a s, s.at_ ≤ L' → Rl E P (f' a s) (f a s)) (a : α) {s : Sta} (hs : s.at_ ≤ L') : Rl E P (run L' f' a s) (YtnnkegpnjedneaaDoor.run L f a s) := by
  have key : ∀ n s a, L' - s.at_ ≤ n → s.at_ ≤ L' → Rl E P (YtnnkegpnjedneaaDoor.run L' f' a s) (YtnnkegpnjedneaaDoor.run L f a s) := by
    intro n
    induction n with
    | zero =>
      intro s a hn hs
      rw [run_eq hf' a hs, run_eq hf a (by omega)]
      refine (h a s hs).bind ?_ ?_
      · intro x s' h1 _
        have := hf' a s x s' hs h1
        omega
      · intro x s' b t h1 h2 h3
        have h4 := hf a s x s' (by omega) h1
        split at h3
        · cases h3; exact h2
        · exact hP s' t (Pr.run hf hpr x.2 s' b t h4.2 h3) h2
    | succ n ih =>
      intro s a hn hs
      rw [run_eq hf' a hs, run_eq hf a (by omega)]
      refine (h a s hs).bind ?_ ?_
      · intro x s' h1 _
        have h3 := hf' a s x s' hs h1
        split
        · exact .inl rfl
        · exact ih s' x.2 (by omega) h3.2
      · intro x s' b t h1 h2 h3
        have h4 := hf a s x s' (by omega) h1
        split at h3
        · cases h3; exact h2
        · exact hP s' t (Pr.run hf hpr x.2 s' b t h4.2 h3) h2
  exact key _ s a (Nat.le_refl _) hs
end

/-! ### The pieces -/
/-- The next number of n bits. -/
def rdN (bs : List Nat) (n : Nat) (s : Sta) : Res Nat := if s.at_ + n ≤ 8 * bs.length then .ok (pk bs s.at_ n) { s with at_ := s.at_ + n } else .bad 15
/-- The symbol with whose code fifteen bits begin. -/
def findB (ls : List Nat) (A : Nat) : Option Nat := (List.range ls.length).find? fun s => decide (ln ls s ≠ 0 ∧ A / 2 ^ (15 - ln ls s) = cd ls s)
/-- The next symbol by a code. -/
def rdS (bs ls : List Nat) (s : Sta) : Res Nat :=
  if s.at_ = 8 * bs.length then .bad 15
  else match findB ls (ahead bs s.at_) with
    | none => .bad 10
    | some y => if s.at_ + ln ls y ≤ 8 * bs.length then .ok y { s with at_ := s.at_ + ln ls y } else .bad 15
def lenOf (y : Nat) : Option (Nat × Nat) :=
  if y < 257 ∨ 285 < y then none else if y = 285 then some (258, 0) else if y < 261 then some (y - 254, 0) else some (3 + (4 + (y - 257) % 4) * 2 ^ ((y - 257) / 4 - 1), (y - 257) / 4 - 1)
def disOf (d : Nat) : Option (Nat × Nat) :=
  if 29 < d then none else if d < 2 then some (1 + d, 0) else some (1 + (2 + d % 2) * 2 ^ (d / 2 - 1), d / 2 - 1)
/-- The number that a symbol and the bits behind it tell. -/
def grown (bs : List Nat) (o : Option (Nat × Nat)) (s : Sta) : Res Nat :=
  match o with
  | none => .bad 10
  | some x => (rdN bs x.2 s).bind fun v s' => .ok (x.1 + v) s'
/-- Bytes that stand so far back come again. -/
def back (far : Nat) : Nat → List Nat → List Nat
  | 0, l => l
  | n + 1, l => back far n (l ++ [l.getD (l.length - far) 0])
def again (bs : List Nat) (lim : Nat) (ol : List Nat) (y : Nat) (s : Sta) : Res Unit :=
  (grown bs (lenOf y) s).bind fun n s1 => (rdS bs ol s1).bind fun d s2 => (grown bs (disOf d) s2).bind fun far s3 =>
    if s3.out.length < far then .bad 10 else if lim < s3.out.length + n then .bad 14 else .ok () { s3 with out := back far n s3.out }
/-- A symbol of a block. -/
def sym1 (bs : List Nat) (lim : Nat) (fl ol : List Nat) (_ : Unit) (s : Sta) : Res (Bool × Unit) :=
  (rdS bs fl s).bind fun y s1 =>
    if y < 256 then (if lim < s1.out.length + 1 then .bad 14 else .ok (false, ()) { s1 with steps := s1.steps + 1, out := s1.out ++ [y] })
    else if y = 256 then .ok (true, ()) { s1 with steps := s1.steps + 1 }
    else (again bs lim ol y { s1 with steps := s1.steps + 1 }).bind fun _ s2 => .ok (false, ()) s2
def syms (bs : List Nat) (lim : Nat) (fl ol : List Nat) (s : Sta) : Res Unit := run (8 * bs.length) (sym1 bs lim fl ol) () s
/-- A stored block. -/
def stored (bs : List Nat) (lim : Nat) (s : Sta) : Res Unit :=
  (rdN bs 16 { s with at_ := up8 s.at_ }).bind fun n s1 => (rdN bs 16 s1).bind fun m s2 =>
    if m ≠ 65535 - n then .bad 10 else if 8 * bs.length < s2.at_ + 8 * n then .bad 15 else if lim < s2.out.length + n then .bad 14
    else .ok () { s2 with at_ := s2.at_ + 8 * n, out := s2.out ++ (bs.drop (s2.at_ / 8)).take n, steps := s2.steps + n }
/-- How many bits more an item has. -/
def xb (y : Nat) : Nat := if y = 16 then 2 else if y = 17 then 3 else if y = 18 then 7 else 0
def itm (bs own : List Nat) (s : Sta) : Res (Nat × Nat) :=
  (rdS bs own s).bind fun y s1 => if 16 ≤ y ∧ y ≤ 18 then (rdN bs (xb y) s1).bind fun v s2 => .ok (y, v) s2 else .ok (y, 0) s1
/-- The lengths that an item tells behind those ahead. -/
def told (y v : Nat) (row : List Nat) : Option (List Nat) :=
  if y < 16 then some [y] else if y = 16 then (if row = [] then none else some (List.replicate (3 + v) (row.getLastD 0))) else if y = 17 then some (List.replicate (3 + v) 0) else if y = 18 then some (List.replicate (11 + v) 0) else none
def len1 (bs own : List Nat) (n : Nat) (row : List Nat) (s : Sta) : Res (Bool × List Nat) :=
  (itm bs own s).bind fun x s1 =>
    match told x.1 x.2 row with
    | none => .bad 10
    | some t => if n < (row ++ t).length then .bad 10 else .ok (decide ((row ++ t).length = n), row ++ t) s1
def lens (bs own : List Nat) (n : Nat) (s : Sta) : Res (List Nat) := run (8 * bs.length) (len1 bs own n) [] s
/-- The order in which the lengths of the items' code are told. -/
def ord : List Nat := [16, 17, 18, 0, 8, 7, 9, 6, 10, 5, 11, 4, 12, 3, 13, 2, 14, 1, 15]
def ownOf (l : List Nat) : List Nat := (List.range 19).map fun j => l.getD (ord.idxOf j) 0
def rdO (bs : List Nat) : Nat → List Nat → Sta → Res (List Nat)
  | 0, l, s => .ok l s
  | k + 1, l, s => (rdN bs 3 s).bind fun v s' => rdO bs k (l ++ [v]) s'
/-- Is a code one that may be: complete, or of one symbol that has the length 1? -/
def whole (ls : List Nat) : Bool := decide (room ls = 32768 ∨ (many ls = 1 ∧ 1 ∈ ls))
def fits (row : List Nat) (l : Nat) : Bool :=
  decide (room (row.take l) ≤ 32768 ∧ room (row.drop l) ≤ 32768) && whole (row.take l) && (whole (row.drop l) || decide (many (row.drop l) = 0))
/-- The codes that a block tells. -/
def codes (bs : List Nat) (s : Sta) : Res (List Nat × List Nat) :=
  (rdN bs 5 s).bind fun l s1 => (rdN bs 5 s1).bind fun d s2 => (rdN bs 4 s2).bind fun c s3 =>
    if 29 < l ∨ 29 < d then .bad 10 else
    (rdO bs (4 + c) [] s3).bind fun o s4 =>
      if room (ownOf o) ≠ 32768 then .bad 10 else
      (lens bs (ownOf o) (258 + l + d) s4).bind fun row s5 =>
        if row.getD 256 0 = 0 then .bad 10 else
        if fits row (257 + l) then .ok (row.take (257 + l), row.drop (257 + l)) s5 else .bad 10
def fixF : List Nat := List.replicate 144 8 ++ List.replicate 112 9 ++ List.replicate 24 7 ++ List.replicate 8 8
def fixO : List Nat := List.replicate 32 5
/-- A block, from its kind on. -/
def blk (bs : List Nat) (lim : Nat) (s : Sta) : Res Unit :=
  (rdN bs 2 s).bind fun k s1 =>
    if k = 0 then stored bs lim s1 else if k = 1 then syms bs lim fixF fixO s1 else if k = 2 then (codes bs s1).bind fun c s2 => syms bs lim c.1 c.2 s2 else .bad 10
def blk1 (bs : List Nat) (lim : Nat) (_ : Unit) (s : Sta) : Res (Bool × Unit) :=
  (rdN bs 1 s).bind fun last s1 => (blk bs lim s1).bind fun _ s2 => .ok (decide (last = 1), ()) { s2 with blocks := s2.blocks + 1 }
def st0 : Sta := ⟨0, [], 0, 0⟩
/-- Packed bytes, unpacked. -/
def infl (bs : List Nat) (lim : Nat) : Res Unit := run (8 * bs.length) (blk1 bs lim) () st0
end Go.Proofs.YtnnkegpnjedneaaDoor

/-
  What holds of each piece of the reading; more bits behind; a lesser limit. No program.
-/
namespace Go.Proofs.YtnnkegpnjedneaaDoor

variable {bs : List Nat} {lim : Nat}

theorem rdN_is {n : Nat} {s t : Sta} {v : Nat} (h : rdN bs n s = .ok v t) : s.at_ + n ≤ 8 * bs.length ∧ v = pk bs s.at_ n ∧ t = { s with at_ := s.at_ + n } := by
  unfold rdN at h
  split at h
  · cases h; exact ⟨by assumption, rfl, rfl⟩
  · cases h
theorem rdN_pr (n : Nat) : Pr (8 * bs.length) lim (rdN bs n) := by
  intro s a t hs h
  obtain ⟨h1, _, rfl⟩ := rdN_is h
  exact Le.to (Nat.le_add_right _ _) h1

theorem findB_some {ls : List Nat} {A y : Nat} (h : findB ls A = some y) : Beg ls A y := by
  have := List.find?_some h
  rw [decide_eq_true_iff] at this
  exact this
theorem findB_none {ls : List Nat} {A : Nat} (h : findB ls A = none) (y : Nat) : ¬ Beg ls A y := by
  intro hb
  have hlt := ln_lt hb.1
  have := List.find?_eq_none.1 h y (List.mem_range.2 hlt)
  exact this (by rw [decide_eq_true_iff]; exact hb)
theorem findB_of {ls : List Nat} (H : Ok ls) {A y : Nat} (h : Beg ls A y) : findB ls A = some y := by
  cases hf : findB ls A with
  | none => exact absurd h (findB_none hf y)
  | some z => rw [beg_one H h (findB_some hf)]

theorem rdS_is {ls : List Nat} {s t : Sta} {y : Nat} (h : rdS bs ls s = .ok y t) :
    Beg ls (ahead bs s.at_) y ∧ 1 ≤ ln ls y ∧ s.at_ + ln ls y ≤ 8 * bs.length ∧ t = { s with at_ := s.at_ + ln ls y } := by
  unfold rdS at h
  split at h
  · cases h
  · split at h
    · cases h
    · rename_i y' hf
      have hb := findB_some hf
      split at h
      · cases h
        exact ⟨hb, Nat.one_le_iff_ne_zero.2 hb.1, by assumption, rfl⟩
      · cases h
theorem rdS_pr (ls : List Nat) : Pr (8 * bs.length) lim (rdS bs ls) := by
  intro s a t hs h
  obtain ⟨_, h1, h2, rfl⟩ := rdS_is h
  exact Le.to (Nat.le_add_right _ _) h2

theorem grown_pr (o : Option (Nat × Nat)) : Pr (8 * bs.length) lim (grown bs o) := by
  intro s a t hs h
  cases o with
  | none => cases h
  | some x =>
    obtain ⟨v, s', h1, h2⟩ := Res.bind_is h
    cases h2
    exact rdN_pr _ _ _ _ hs h1
theorem back_len (far n : Nat) : ∀ l, (back far n l).length = l.length + n := by
  induction n with
  | zero => intro l; rfl
  | succ n ih => intro l; rw [back, ih]; simp; omega
theorem getD_bs {l : List Nat} (h : Bs l) (i : Nat) : l.getD i 0 < 256 := by
  rw [List.getD_eq_getElem?_getD]
  rcases Nat.lt_or_ge i l.length with hi | hi
  · rw [List.getElem?_eq_getElem hi]; exact h _ (List.getElem_mem hi)
  · rw [List.getElem?_eq_none hi]; exact Nat.zero_lt_succ _
theorem bs_snoc {l : List Nat} (h : Bs l) {x : Nat} (hx : x < 256) : Bs (l ++ [x]) := by
  intro y hy
  rcases List.mem_append.1 hy with hy | hy
  · exact h y hy
  · rw [List.mem_singleton.1 hy]; exact hx
theorem back_bs (far n : Nat) : ∀ l, Bs l → Bs (back far n l) := by
  induction n with
  | zero => intro l h; exact h
  | succ n ih => intro l h; rw [back]; exact ih _ (bs_snoc h (getD_bs h _))

theorem again_pr (ol : List Nat) (y : Nat) : Pr (8 * bs.length) lim (again bs lim ol y) := by
  intro s a t hs h
  obtain ⟨n, s1, h1, h⟩ := Res.bind_is h
  obtain ⟨d, s2, h2, h⟩ := Res.bind_is h
  obtain ⟨far, s3, h3, h⟩ := Res.bind_is h
  have k1 := grown_pr (lim := lim) _ _ _ _ hs h1
  have k2 := rdS_pr (lim := lim) _ _ _ _ k1.end_ h2
  have k3 := grown_pr (lim := lim) _ _ _ _ k2.end_ h3
  refine (k1.trans (k2.trans k3)).trans ?_
  split at h
  · cases h
  · split at h
    · cases h
    · cases h
      refine ⟨Nat.le_refl _, k3.end_, ?_, fun _ => ?_, Nat.le_refl _, Nat.le_refl _, back_bs _ _ _⟩
      · show _ ≤ (back _ _ _).length; rw [back_len]; omega
      · show (back _ _ _).length ≤ _; rw [back_len]; omega

theorem sym1_le (fl ol : List Nat) {u : Unit} {s t : Sta} {x : Bool × Unit} (_hs : s.at_ ≤ 8 * bs.length) (h : sym1 bs lim fl ol u s = .ok x t) : s.at_ < t.at_ ∧ Le (8 * bs.length) lim s t := by
  obtain ⟨y, s1, h1, h⟩ := Res.bind_is h
  obtain ⟨_, k1, k2, rfl⟩ := rdS_is h1
  have kt : Le (8 * bs.length) lim s { s with at_ := s.at_ + ln fl y, steps := s.steps + 1 } :=
    ⟨Nat.le_add_right _ _, k2, Nat.le_refl _, id, by show s.steps + 1 + s.at_ ≤ s.steps + (s.at_ + ln fl y); omega, by show s.blocks + s.at_ ≤ s.blocks + (s.at_ + ln fl y); omega, id⟩
  split at h
  · split at h
    · cases h
    · cases h
      refine ⟨by show s.at_ < s.at_ + ln fl y; omega, kt.trans ⟨Nat.le_refl _, k2, ?_, fun _ => ?_, Nat.le_refl _, Nat.le_refl _, fun hb => bs_snoc hb (by assumption)⟩⟩
      · show _ ≤ (_ ++ _ : List Nat).length; simp
      · show (_ ++ _ : List Nat).length ≤ _; simp at *; omega
  · split at h
    · cases h
      exact ⟨by show s.at_ < s.at_ + ln fl y; omega, kt⟩
    · obtain ⟨_, s2, h2, h⟩ := Res.bind_is h
      cases h
      have k3 := again_pr ol y _ _ _ k2 h2
      have := k3.at_
      exact ⟨by simp at this; omega, kt.trans k3⟩
theorem sym1_takes (fl ol : List Nat) : Takes (8 * bs.length) (sym1 bs lim fl ol) := fun _ _ _ _ hs h => ⟨(sym1_le fl ol hs h).1, (sym1_le fl ol hs h).2.end_⟩
theorem sym1_pr (fl ol : List Nat) (u : Unit) : Pr (8 * bs.length) lim (sym1 bs lim fl ol u) := fun _ _ _ hs h => (sym1_le fl ol hs h).2
theorem syms_pr (fl ol : List Nat) : Pr (8 * bs.length) lim (syms bs lim fl ol) := Pr.run (sym1_takes fl ol) (sym1_pr fl ol) ()

theorem up8_le (n : Nat) : n ≤ up8 n := by unfold up8; omega
theorem up8_end {n L : Nat} (h : n ≤ 8 * L) : up8 n ≤ 8 * L := by unfold up8; omega
theorem cut_bs {l : List Nat} (h : Bs l) (a b : Nat) : Bs ((l.drop a).take b) := fun x hx => h x (List.mem_of_mem_drop (List.mem_of_mem_take hx))
theorem stored_pr (hb : Bs bs) : Pr (8 * bs.length) lim (stored bs lim) := by
  intro s a t hs h
  obtain ⟨n, s1, h1, h⟩ := Res.bind_is h
  obtain ⟨m, s2, h2, h⟩ := Res.bind_is h
  have k0 : Le (8 * bs.length) lim s { s with at_ := up8 s.at_ } := Le.to (up8_le _) (up8_end hs)
  have k1 := rdN_pr (lim := lim) _ _ _ _ k0.end_ h1
  have k2 := rdN_pr (lim := lim) _ _ _ _ k1.end_ h2
  refine (k0.trans (k1.trans k2)).trans ?_
  split at h
  · cases h
  · split at h
    · cases h
    · split at h
      · cases h
      · cases h
        have hlen : ((bs.drop (s2.at_ / 8)).take n).length ≤ n := List.length_take_le _ _
        refine ⟨by show _ ≤ s2.at_ + 8 * n; omega, by show s2.at_ + 8 * n ≤ _; omega, ?_, fun _ => ?_, by show s2.steps + n + s2.at_ ≤ s2.steps + (s2.at_ + 8 * n); omega, by show s2.blocks + s2.at_ ≤ s2.blocks + (s2.at_ + 8 * n); omega, fun hq => ?_⟩
        · show _ ≤ (_ ++ _ : List Nat).length; simp
        · show (_ ++ _ : List Nat).length ≤ _; rw [List.length_append]; omega
        · intro x hx
          rcases List.mem_append.1 hx with hx | hx
          · exact hq x hx
          · exact cut_bs hb _ _ x hx

theorem itm_le (own : List Nat) {s t : Sta} {x : Nat × Nat} (hs : s.at_ ≤ 8 * bs.length) (h : itm bs own s = .ok x t) : s.at_ < t.at_ ∧ Le (8 * bs.length) lim s t := by
  obtain ⟨y, s1, h1, h⟩ := Res.bind_is h
  have k1 := rdS_pr (lim := lim) _ _ _ _ hs h1
  obtain ⟨_, k2, _, rfl⟩ := rdS_is h1
  split at h
  · obtain ⟨v, s2, h2, h⟩ := Res.bind_is h
    cases h
    have k3 := rdN_pr (lim := lim) _ _ _ _ k1.end_ h2
    have := k3.at_
    exact ⟨by simp at this; omega, k1.trans k3⟩
  · cases h
    exact ⟨by show s.at_ < s.at_ + ln own y; omega, k1⟩
theorem len1_le (own : List Nat) (n : Nat) {row : List Nat} {s t : Sta} {x : Bool × List Nat} (hs : s.at_ ≤ 8 * bs.length) (h : len1 bs own n row s = .ok x t) : s.at_ < t.at_ ∧ Le (8 * bs.length) lim s t := by
  obtain ⟨y, s1, h1, h⟩ := Res.bind_is h
  have k := itm_le (lim := lim) own hs h1
  split at h
  · cases h
  · split at h
    · cases h
    · cases h
      exact k
theorem len1_takes (own : List Nat) (n : Nat) : Takes (8 * bs.length) (len1 bs own n) := fun _ _ _ _ hs h => ⟨(len1_le (lim := 0) own n hs h).1, (len1_le (lim := 0) own n hs h).2.end_⟩
theorem lens_pr (own : List Nat) (n : Nat) : Pr (8 * bs.length) lim (lens bs own n) := Pr.run (len1_takes own n) (fun _ _ _ _ hs h => (len1_le own n hs h).2) []
theorem rdO_pr (k : Nat) : ∀ l, Pr (8 * bs.length) lim (rdO bs k l) := by
  induction k with
  | zero => intro l s a t hs h; cases h; exact Le.refl _ hs
  | succ k ih =>
    intro l s a t hs h
    obtain ⟨v, s1, h1, h⟩ := Res.bind_is h
    have k1 := rdN_pr (lim := lim) _ _ _ _ hs h1
    exact k1.trans (ih _ _ _ _ k1.end_ h)
theorem codes_pr : Pr (8 * bs.length) lim (codes bs) := by
  intro s a t hs h
  obtain ⟨l, s1, h1, h⟩ := Res.bind_is h
  obtain ⟨d, s2, h2, h⟩ := Res.bind_is h
  obtain ⟨c, s3, h3, h⟩ := Res.bind_is h
  have k1 := rdN_pr (lim := lim) _ _ _ _ hs h1
  have k2 := rdN_pr (lim := lim) _ _ _ _ k1.end_ h2
  have k3 := rdN_pr (lim := lim) _ _ _ _ k2.end_ h3
  split at h
  · cases h
  · obtain ⟨o, s4, h4, h⟩ := Res.bind_is h
    have k4 := rdO_pr (lim := lim) _ _ _ _ _ k3.end_ h4
    split at h
    · cases h
    · obtain ⟨row, s5, h5, h⟩ := Res.bind_is h
      have k5 := lens_pr (lim := lim) _ _ _ _ _ k4.end_ h5
      split at h
      · cases h
      · split at h
        · cases h
          exact k1.trans (k2.trans (k3.trans (k4.trans k5)))
        · cases h
theorem blk_pr (hb : Bs bs) : Pr (8 * bs.length) lim (blk bs lim) := by
  intro s a t hs h
  obtain ⟨k, s1, h1, h⟩ := Res.bind_is h
  have k1 := rdN_pr (lim := lim) _ _ _ _ hs h1
  refine k1.trans ?_
  split at h
  · exact stored_pr hb _ _ _ k1.end_ h
  · split at h
    · exact syms_pr _ _ _ _ _ k1.end_ h
    · split at h
      · obtain ⟨c, s2, h2, h⟩ := Res.bind_is h
        have k2 := codes_pr (lim := lim) _ _ _ k1.end_ h2
        exact k2.trans (syms_pr _ _ _ _ _ k2.end_ h)
      · cases h
theorem blk1_le (hb : Bs bs) {u : Unit} {s t : Sta} {x : Bool × Unit} (hs : s.at_ ≤ 8 * bs.length) (h : blk1 bs lim u s = .ok x t) : s.at_ < t.at_ ∧ Le (8 * bs.length) lim s t ∧ 1 ≤ t.blocks := by
  obtain ⟨l, s1, h1, h⟩ := Res.bind_is h
  obtain ⟨u2, s2, h2, h⟩ := Res.bind_is h
  have k1 := rdN_pr (lim := lim) _ _ _ _ hs h1
  obtain ⟨h3, _, h4⟩ := rdN_is h1
  have k2 := blk_pr hb _ _ _ k1.end_ h2
  have e1 : s1.at_ = s.at_ + 1 := by rw [h4]
  have e2 : s1.blocks = s.blocks := by rw [h4]
  cases h
  have := k2.at_
  have := k2.blocks
  have k := k1.trans k2
  refine ⟨by show s.at_ < s2.at_; omega, ⟨k.at_, k.end_, k.out, k.lim_, k.steps, ?_, k.bytes⟩, by show 1 ≤ s2.blocks + 1; omega⟩
  show s2.blocks + 1 + s.at_ ≤ s.blocks + s2.at_; omega
theorem blk1_takes (hb : Bs bs) : Takes (8 * bs.length) (blk1 bs lim) := fun _ _ _ _ hs h => ⟨(blk1_le hb hs h).1, (blk1_le hb hs h).2.1.end_⟩
theorem blk1_pr (hb : Bs bs) (u : Unit) : Pr (8 * bs.length) lim (blk1 bs lim u) := fun _ _ _ hs h => (blk1_le hb hs h).2.1
theorem infl_le (hb : Bs bs) {u : Unit} {t : Sta} (h : infl bs lim = .ok u t) : Le (8 * bs.length) lim st0 t := Pr.run (blk1_takes hb) (blk1_pr hb) () _ _ _ (Nat.zero_le _) h

/-! ### A lesser limit -/
section
variable {lo_ : Nat} (hl : lo_ ≤ lim)
/-- Beyond the lesser limit. -/
def Ov (l : Nat) (s : Sta) : Prop := l < s.out.length
theorem ov_le {L l m : Nat} (s t : Sta) (h : Le L m s t) (hs : Ov l s) : Ov l t := Nat.lt_of_lt_of_le hs h.out
include hl
theorem again_lim (ol : List Nat) (y : Nat) (s : Sta) (hs : s.at_ ≤ 8 * bs.length) : Rl 14 (Ov lo_) (again bs lo_ ol y s) (again bs lim ol y s) := by
  refine Rl.bind (.inl rfl) ?_ ?_
  · intro n s1 h1 _
    refine Rl.bind (.inl rfl) ?_ ?_
    · intro d s2 h2 _
      refine Rl.bind (.inl rfl) ?_ ?_
      · intro far s3 h3 _
        split
        · exact .inl rfl
        · by_cases h4 : lo_ < s3.out.length + n
          · rw [if_pos h4]
            refine .inr ⟨rfl, fun a t h => ?_⟩
            split at h
            · cases h
            · cases h
              show lo_ < (back far n s3.out).length
              rw [back_len]; exact h4
          · rw [if_neg h4, if_neg (by omega)]
            exact .inl rfl
      · intro far s3 b t h3 hp h
        split at h
        · cases h
        · split at h
          · cases h
          · cases h
            show lo_ < (back far n s3.out).length
            rw [back_len]
            have : lo_ < s3.out.length := hp
            omega
    · intro d s2 b t h2 hp h
      obtain ⟨far, s3, h3, h⟩ := Res.bind_is h
      have k1 := grown_pr (lim := lim) _ _ _ _ hs h1
      have k2 := rdS_pr (lim := lim) _ _ _ _ k1.end_ h2
      have k3 := grown_pr (lim := lim) _ _ _ _ k2.end_ h3
      have hp3 := ov_le _ _ k3 hp
      split at h
      · cases h
      · split at h
        · cases h
        · cases h
          show lo_ < (back far n s3.out).length
          rw [back_len]
          have : lo_ < s3.out.length := hp3
          omega
  · intro n s1 b t h1 hp h
    have k1 := grown_pr (lim := lim) _ _ _ _ hs h1
    obtain ⟨d, s2, h2, h⟩ := Res.bind_is h
    obtain ⟨far, s3, h3, h⟩ := Res.bind_is h
    have k2 := rdS_pr (lim := lim) _ _ _ _ k1.end_ h2
    have k3 := grown_pr (lim := lim) _ _ _ _ k2.end_ h3
    have hp3 := ov_le _ _ (k2.trans k3) hp
    split at h
    · cases h
    · split at h
      · cases h
      · cases h
        show lo_ < (back far n s3.out).length
        rw [back_len]
        have : lo_ < s3.out.length := hp3
        omega
theorem sym1_lim (fl ol : List Nat) (u : Unit) (s : Sta) (hs : s.at_ ≤ 8 * bs.length) : Rl 14 (Ov lo_) (sym1 bs lo_ fl ol u s) (sym1 bs lim fl ol u s) := by
  refine Rl.bind (.inl rfl) ?_ ?_
  · intro y s1 h1 _
    have k1 := rdS_pr (lim := lim) _ _ _ _ hs h1
    split
    · by_cases h4 : lo_ < s1.out.length + 1
      · rw [if_pos h4]
        refine .inr ⟨rfl, fun a t h => ?_⟩
        split at h
        · cases h
        · cases h
          show lo_ < (_ ++ _ : List Nat).length
          simpa using h4
      · rw [if_neg h4, if_neg (by omega)]
        exact .inl rfl
    · split
      · exact .inl rfl
      · refine (again_lim hl ol y { s1 with steps := s1.steps + 1 } k1.end_).bind (fun _ _ _ _ => .inl rfl) ?_
        intro a s2 b t _ hp h
        cases h
        exact hp
  · intro y s1 b t h1 hp h
    have k1 := rdS_pr (lim := lim) _ _ _ _ hs h1
    split at h
    · split at h
      · cases h
      · cases h
        show lo_ < (_ ++ _ : List Nat).length
        have : lo_ < s1.out.length := hp
        simp; omega
    · split at h
      · cases h; exact hp
      · obtain ⟨_, s2, h2, h⟩ := Res.bind_is h
        cases h
        exact ov_le _ _ (again_pr ol y { s1 with steps := s1.steps + 1 } _ _ k1.end_ h2) hp
theorem syms_lim (fl ol : List Nat) (s : Sta) (hs : s.at_ ≤ 8 * bs.length) : Rl 14 (Ov lo_) (syms bs lo_ fl ol s) (syms bs lim fl ol s) :=
  Rl.run (lim := lim) (Nat.le_refl _) (sym1_takes fl ol) (sym1_takes fl ol) (sym1_pr fl ol) ov_le (fun u s hs => sym1_lim hl fl ol u s hs) () hs
theorem stored_lim (_hb : Bs bs) (s : Sta) (hs : s.at_ ≤ 8 * bs.length) : Rl 14 (Ov lo_) (stored bs lo_ s) (stored bs lim s) := by
  have hs0 : ({ s with at_ := up8 s.at_ } : Sta).at_ ≤ 8 * bs.length := up8_end hs
  have fin : ∀ n m (s2 : Sta) b t, Ov lo_ s2 → (if m ≠ 65535 - n then Res.bad 10 else if 8 * bs.length < s2.at_ + 8 * n then .bad 15 else if lim < s2.out.length + n then .bad 14
      else .ok () { s2 with at_ := s2.at_ + 8 * n, out := s2.out ++ (bs.drop (s2.at_ / 8)).take n, steps := s2.steps + n }) = .ok b t → Ov lo_ t := by
    intro n m s2 b t hp h
    split at h
    · cases h
    · split at h
      · cases h
      · split at h
        · cases h
        · cases h
          have : lo_ < s2.out.length := hp
          show lo_ < (_ ++ _ : List Nat).length
          rw [List.length_append]; omega
  refine Rl.bind (.inl rfl) ?_ ?_
  · intro n s1 h1 _
    refine Rl.bind (.inl rfl) ?_ ?_
    · intro m s2 h2 _
      have k1 := rdN_pr (lim := lim) _ _ _ _ hs0 h1
      have k2 := rdN_pr (lim := lim) _ _ _ _ k1.end_ h2
      split
      · exact .inl rfl
      · split
        · exact .inl rfl
        · rename_i hle
          by_cases h4 : lo_ < s2.out.length + n
          · rw [if_pos h4]
            refine .inr ⟨rfl, fun a t h => ?_⟩
            split at h
            · cases h
            · cases h
              show lo_ < (_ ++ _ : List Nat).length
              rw [List.length_append, List.length_take, List.length_drop]
              obtain ⟨_, _, e1⟩ := rdN_is h1
              obtain ⟨_, _, e2⟩ := rdN_is h2
              have e3 : s2.at_ = up8 s.at_ + 16 + 16 := by rw [e2, e1]
              have e4 : s2.at_ % 8 = 0 := by rw [e3]; unfold up8; omega
              rw [Nat.min_eq_left (by omega)]
              exact h4
          · rw [if_neg h4, if_neg (by omega)]
            exact .inl rfl
    · intro m s2 b t h2 hp h
      exact fin _ _ _ _ _ hp h
  · intro n s1 b t h1 hp h
    obtain ⟨m, s2, h2, h⟩ := Res.bind_is h
    have k1 := rdN_pr (lim := lim) _ _ _ _ hs0 h1
    exact fin _ _ _ _ _ (ov_le _ _ (rdN_pr (lim := lim) _ _ _ _ k1.end_ h2) hp) h
theorem blk_lim (hb : Bs bs) (s : Sta) (hs : s.at_ ≤ 8 * bs.length) : Rl 14 (Ov lo_) (blk bs lo_ s) (blk bs lim s) := by
  refine Rl.bind (.inl rfl) ?_ ?_
  · intro k s1 h1 _
    have k1 := rdN_pr (lim := lim) _ _ _ _ hs h1
    split
    · exact stored_lim hl hb s1 k1.end_
    · split
      · exact syms_lim hl _ _ s1 k1.end_
      · split
        · refine Rl.bind (.inl rfl) ?_ ?_
          · intro c s2 h2 _
            exact syms_lim hl _ _ s2 (codes_pr (lim := lim) _ _ _ k1.end_ h2).end_
          · intro c s2 b t h2 hp h
            exact ov_le _ _ (syms_pr _ _ _ _ _ (codes_pr (lim := lim) _ _ _ k1.end_ h2).end_ h) hp
        · exact .inl rfl
  · intro k s1 b t h1 hp h
    have k1 := rdN_pr (lim := lim) _ _ _ _ hs h1
    split at h
    · exact ov_le _ _ (stored_pr hb _ _ _ k1.end_ h) hp
    · split at h
      · exact ov_le _ _ (syms_pr _ _ _ _ _ k1.end_ h) hp
      · split at h
        · obtain ⟨c, s2, h2, h⟩ := Res.bind_is h
          have k2 := codes_pr (lim := lim) _ _ _ k1.end_ h2
          exact ov_le _ _ (k2.trans (syms_pr _ _ _ _ _ k2.end_ h)) hp
        · cases h
theorem infl_lim (hb : Bs bs) : Rl 14 (Ov lo_) (infl bs lo_) (infl bs lim) := by
  refine Rl.run (lim := lim) (Nat.le_refl _) (blk1_takes hb) (blk1_takes hb) (blk1_pr hb) ov_le (fun u s hs => ?_) () (Nat.zero_le _)
  refine Rl.bind (.inl rfl) ?_ ?_
  · intro l s1 h1 _
    have k1 := rdN_pr (lim := lim) _ _ _ _ hs h1
    refine (blk_lim hl hb s1 k1.end_).bind (fun _ _ _ _ => .inl rfl) ?_
    intro a s2 b t _ hp h
    cases h
    exact hp
  · intro l s1 b t h1 hp h
    have k1 := rdN_pr (lim := lim) _ _ _ _ hs h1
    obtain ⟨_, s2, h2, h⟩ := Res.bind_is h
    have k2 := ov_le _ _ (blk_pr hb _ _ _ k1.end_ h2) hp
    cases h
    exact k2
end
/-- The limit that the bytes need, and less. -/
theorem infl_need (hb : Bs bs) {t : Sta} (h : infl bs lim = .ok () t) {m : Nat} (hm : m ≤ lim) : (t.out.length ≤ m → infl bs m = .ok () t) ∧ (m < t.out.length → infl bs m = .bad 14) := by
  have hr := infl_lim (lo_ := m) hm hb
  constructor
  · intro hle
    exact hr.ok h (by unfold Ov; omega)
  · intro hlt
    rcases hr with hr | ⟨hr, _⟩
    · rw [h] at hr
      have := (infl_le hb hr).lim_ (Nat.zero_le _)
      omega
    · exact hr
end Go.Proofs.YtnnkegpnjedneaaDoor

/-
  must, spread, Length, Distance, bytesFor of inflate.
-/
namespace Go.Proofs.YtnnkegpnjedneaaDoor
open Go.RowKit
set_option maxRecDepth 100000

/-- The panic of a fault. -/
abbrev pan (er : Nat) : Ending := .panicked [{ v := .iface 97 (.int .i64 (er : Nat)), recovered := false }]

theorem must_yes (er : Int) (w : World) : Calls Tryd.prog 66 #[.bool true, .int .i64 er] w fun e w' => e = .returned (.tuple #[]) ∧ w = w' := by
  go_enter Tryd.func66, Tryd.ntmps66
  go_wp2
  go_end0
  exact ⟨rfl, rfl⟩
theorem must_no (er : Nat) (w : World) : Calls Tryd.prog 66 #[.bool false, .int .i64 (er : Nat)] w fun e w' => e = pan er ∧ w = w' := by
  go_enter Tryd.func66, Tryd.ntmps66
  go_wp2
  exact ⟨rfl, rfl, rfl⟩

theorem inflBytesFor (n : Nat) (w : World) (h : n ≤ 10000000000) : Calls Tryd.prog 33 #[.int .i64 n] w fun e w' => e = .returned (.int .i64 ((n + 7) / 8 : Nat)) ∧ w = w' := by
  go_enter Tryd.func33, Tryd.ntmps33
  go_wp2
  go_ret
  exact ⟨by simp, rfl⟩
theorem spread_lo (s g : Nat) (w : World) (h : s < g) : Calls Tryd.prog 28 #[.int .i64 s, .int .i64 g] w fun e w' => e = .returned (.tuple #[.int .i64 s, .int .i64 0]) ∧ w = w' := by
  go_enter Tryd.func28, Tryd.ntmps28
  go_wp2
  go_ret2
  exact ⟨rfl, rfl⟩
theorem spread_hi (s g e v : Nat) (w : World) (h : g ≤ s) (hg : 1 ≤ g) (hs : s ≤ 100) (he : s / g = e + 1) (he' : e ≤ 20) (hv : (g + s % g) * 2 ^ e = v) (hv' : v ≤ 1000000) : Calls Tryd.prog 28 #[.int .i64 s, .int .i64 g] w fun e' w' => e' = .returned (.tuple #[.int .i64 v, .int .i64 e]) ∧ w = w' := by
  have h1 : ¬ ((g : Int) = 0) := by omega
  have h2 : (s : Int) / g = (e : Int) + 1 := by rw [← Int.natCast_ediv]; omega
  obtain ⟨m, hm⟩ : ∃ m, m = s % g := ⟨_, rfl⟩
  have h3 : (s : Int) % g = (m : Int) := by rw [hm]; simp
  have h4 : ((g : Int) + m) * 2 ^ e = v := by rw [← hv, hm]; simp
  have hmg : m < g := by rw [hm]; exact Nat.mod_lt _ hg
  have H4 := Lib.hid h4
  have h5 : s < 100000 := by omega
  clear hv hm
  go_enter Tryd.func28, Tryd.ntmps28
  go_wp2
  go_ret2
  exact ⟨rfl, rfl⟩

/-- What Length and Distance answer. -/
def tells : Option (Nat × Nat) → Value
  | none => .tuple #[.int .i64 0, .int .i64 0, .bool false]
  | some x => .tuple #[.int .i64 (x.1 : Nat), .int .i64 (x.2 : Nat), .bool true]
theorem spread_small (k g e : Nat) (hg : g ≤ 4) (hg0 : 1 ≤ g) (he : e ≤ 14) : (g + k % g) * 2 ^ e ≤ 1000000 := by
  have h1 : k % g < g := Nat.mod_lt _ hg0
  have h2 : 2 ^ e ≤ 2 ^ 14 := Nat.pow_le_pow_right (by omega) he
  exact Nat.le_trans (Nat.mul_le_mul (show g + k % g ≤ 8 by omega) h2) (by decide)
theorem Length_no (y : Int) (w : World) (h : y < 257 ∨ 285 < y) : Calls Tryd.prog 14 #[.int .i64 y] w fun e w' => e = .returned (tells none) ∧ w = w' := by
  by_cases h1 : y < 257
  · clear h
    go_enter Tryd.func14, Tryd.ntmps14
    go_wp2
    go_ret3
    exact ⟨rfl, rfl⟩
  · have h2 : 285 < y := by omega
    clear h
    go_enter Tryd.func14, Tryd.ntmps14
    go_wp2
    go_ret3
    exact ⟨rfl, rfl⟩
theorem Length_any (y : Nat) (w : World) : Calls Tryd.prog 14 #[.int .i64 y] w fun e w' => e = .returned (tells (lenOf y)) ∧ w = w' := by
  by_cases h : y < 257 ∨ 285 < y
  · unfold lenOf
    rw [if_pos h]
    exact Length_no y w (by omega)
  · have ha : ¬ (y : Int) < 257 := by omega
    have hb : ¬ (285 : Int) < y := by omega
    have hc : (257 : Int) ≤ y := by omega
    have hd : (y : Int) ≤ 285 := by omega
    by_cases h1 : y = 285
    · subst h1
      go_enter Tryd.func14, Tryd.ntmps14
      go_wp2
      go_ret3
      exact ⟨rfl, rfl⟩
    · have e1 : ((y : Int) == 285) = false := by simp; omega
      obtain ⟨k, hk⟩ : ∃ k, y = k + 257 := ⟨y - 257, by omega⟩
      have e2 : (y : Int) - 257 = (k : Nat) := by omega
      by_cases h2 : y < 261
      · have hr : lenOf y = some (3 + k, 0) := by unfold lenOf; rw [if_neg h, if_neg h1, if_pos h2, show y - 254 = 3 + k by omega]
        have HR := Lib.hid hr
        have hk4 : k < 4 := by omega
        rw [hr]
        clear hr h hk
        go_enter Tryd.func14, Tryd.ntmps14
        go_wp2_with (go_at_call 28; (refine (spread_lo k 4 _ hk4).mono ?_); rintro e w2 ⟨rfl, rfl⟩)
        go_ret3
        exact ⟨rfl, rfl⟩
      · obtain ⟨e, he⟩ : ∃ e, e = k / 4 - 1 := ⟨_, rfl⟩
        obtain ⟨v, hv⟩ : ∃ v, (4 + k % 4) * 2 ^ e = v := ⟨_, rfl⟩
        have hvb := spread_small k 4 e (by omega) (by omega) (by omega)
        rw [hv] at hvb
        have hr : lenOf y = some (3 + v, e) := by
          unfold lenOf
          rw [if_neg h, if_neg h1, if_neg h2, show y - 257 = k by omega, ← he, hv]
        rw [hr]
        have HV := Lib.hid hv
        have hk4 : 4 ≤ k := by omega
        have hk5 : k ≤ 100 := by omega
        have hke : k / 4 = e + 1 := by omega
        have he5 : e ≤ 20 := by omega
        have HKE := Lib.hid hke
        clear hr h hk hv he hke
        go_enter Tryd.func14, Tryd.ntmps14
        go_wp2_with (go_at_call 28; (refine (spread_hi k 4 e v _ hk4 (by omega) hk5 HKE.out he5 HV.out hvb).mono ?_); rintro e w2 ⟨rfl, rfl⟩)
        go_ret3
        exact ⟨rfl, rfl⟩
theorem Distance_no (y : Int) (w : World) (h : y < 0 ∨ 29 < y) : Calls Tryd.prog 16 #[.int .i64 y] w fun e w' => e = .returned (tells none) ∧ w = w' := by
  by_cases h1 : y < 0
  · clear h
    go_enter Tryd.func16, Tryd.ntmps16
    go_wp2
    go_ret3
    exact ⟨rfl, rfl⟩
  · have h2 : 29 < y := by omega
    clear h
    go_enter Tryd.func16, Tryd.ntmps16
    go_wp2
    go_ret3
    exact ⟨rfl, rfl⟩
theorem Distance_any (y : Nat) (w : World) : Calls Tryd.prog 16 #[.int .i64 y] w fun e w' => e = .returned (tells (disOf y)) ∧ w = w' := by
  by_cases h : 29 < y
  · unfold disOf
    rw [if_pos h]
    exact Distance_no y w (by omega)
  · have ha : ¬ (y : Int) < 0 := by omega
    have hb : ¬ (29 : Int) < y := by omega
    have hc : (0 : Int) ≤ y := by omega
    have hd : (y : Int) ≤ 29 := by omega
    by_cases h2 : y < 2
    · have hr : disOf y = some (1 + y, 0) := by unfold disOf; rw [if_neg h, if_pos h2]
      rw [hr]
      clear hr h
      go_enter Tryd.func16, Tryd.ntmps16
      go_wp2_with (go_at_call 28; (refine (spread_lo y 2 _ h2).mono ?_); rintro e w2 ⟨rfl, rfl⟩)
      go_ret3
      exact ⟨rfl, rfl⟩
    · obtain ⟨e, he⟩ : ∃ e, e = y / 2 - 1 := ⟨_, rfl⟩
      obtain ⟨v, hv⟩ : ∃ v, (2 + y % 2) * 2 ^ e = v := ⟨_, rfl⟩
      have hvb := spread_small y 2 e (by omega) (by omega) (by omega)
      rw [hv] at hvb
      have hr : disOf y = some (1 + v, e) := by
        unfold disOf
        rw [if_neg h, if_neg h2, ← he, hv]
      rw [hr]
      have HV := Lib.hid hv
      have hk4 : 2 ≤ y := by omega
      have hk5 : y ≤ 100 := by omega
      have hke : y / 2 = e + 1 := by omega
      have he5 : e ≤ 20 := by omega
      have HKE := Lib.hid hke
      clear hr h hv he hke
      go_enter Tryd.func16, Tryd.ntmps16
      go_wp2_with (go_at_call 28; (refine (spread_hi y 2 e v _ hk4 (by omega) hk5 HKE.out he5 HV.out hvb).mono ?_); rintro e w2 ⟨rfl, rfl⟩)
      go_ret3
      exact ⟨rfl, rfl⟩
end Go.Proofs.YtnnkegpnjedneaaDoor

/-
  The reader of packed bytes in memory; what a call of it does.
-/
namespace Go.Proofs.YtnnkegpnjedneaaDoor
open Go.RowKit
set_option maxRecDepth 100000

/-- Of such blocks only readers' and rows of bytes may change. -/
def Safe (w : World) (S : Nat → Prop) : Prop := ∀ k t cs, Blk w k t cs → S k → t = 67 ∨ t = 96 ∨ t = 5
theorem Blk.safe {S : Nat → Prop} {w w' : World} {g : Nat} {t : TypeId} {cs : Array Value} (h : Blk w g t cs) (ht : Touch S w w') (hs : Safe w S) (h1 : t ≠ 67 ∧ t ≠ 96 ∧ t ≠ 5) : Blk w' g t cs :=
  h.touch ht fun k => by rcases hs g t cs h k with e | e | e <;> simp [e] at h1
theorem CodeAt.safe {S : Nat → Prop} {w w' : World} {p : Nat} {ls : List Nat} (h : CodeAt w p ls) (ht : Touch S w w') (hs : Safe w S) : CodeAt w' p ls := by
  obtain ⟨ho, gw, go, F, h1, h2, h3, h4⟩ := h
  exact ⟨ho, gw, go, F, h1.safe ht hs (by decide), h2.safe ht hs (by decide), h3.safe ht hs (by decide), h4⟩

/-- A code whose row of symbols lies below K. -/
def CodeIn (w : World) (K p : Nat) (ls : List Nat) : Prop :=
  Ok ls ∧ ∃ gw go F, Blk w p 79 (cc (.slice (some ⟨gw, 0, none⟩) ls.length ls.length) (.slice (some ⟨go, 0, none⟩) (many ls) (many ls)) (fc ls) (cn ls)) ∧
    Blk w gw 101 (va (ls.length * 2) (wordF ls)) ∧ Blk w go 3 (va (many ls) F) ∧ Ordered ls ls.length F ∧ go < K
theorem CodeAt.in_ {w : World} {p : Nat} {ls : List Nat} (h : CodeAt w p ls) : CodeIn w w.heap.size p ls := by
  obtain ⟨ho, gw, go, F, h1, h2, h3, h4⟩ := h
  exact ⟨ho, gw, go, F, h1, h2, h3, h4, h3.lt⟩
theorem CodeIn.at_ {w : World} {K p : Nat} {ls : List Nat} (h : CodeIn w K p ls) : CodeAt w p ls := by
  obtain ⟨ho, gw, go, F, h1, h2, h3, h4, _⟩ := h
  exact ⟨ho, gw, go, F, h1, h2, h3, h4⟩
theorem CodeIn.mono {w : World} {K K' p : Nat} {ls : List Nat} (h : CodeIn w K p ls) (hk : K ≤ K') : CodeIn w K' p ls := by
  obtain ⟨ho, gw, go, F, h1, h2, h3, h4, h5⟩ := h
  exact ⟨ho, gw, go, F, h1, h2, h3, h4, Nat.lt_of_lt_of_le h5 hk⟩
theorem CodeIn.safe {S : Nat → Prop} {w w' : World} {K p : Nat} {ls : List Nat} (h : CodeIn w K p ls) (ht : Touch S w w') (hs : Safe w S) : CodeIn w' K p ls := by
  obtain ⟨ho, gw, go, F, h1, h2, h3, h4, h5⟩ := h
  exact ⟨ho, gw, go, F, h1.safe ht hs (by decide), h2.safe ht hs (by decide), h3.safe ht hs (by decide), h4, h5⟩
/-- One block has changed: an item's, or a row of numbers above K. -/
theorem CodeIn.aside {w w' : World} {K p r : Nat} {t : TypeId} {cs : Array Value} {ls : List Nat} (h : CodeIn w K p ls) (hr : Blk w r t cs) (ht : Touch (fun k => k = r) w w') (hk : t ≠ 79 ∧ t ≠ 101 ∧ (t = 3 → K ≤ r)) : CodeIn w' K p ls := by
  obtain ⟨ho, gw, go, F, h1, h2, h3, h4, h5⟩ := h
  refine ⟨ho, gw, go, F, h1.touch ht ?_, h2.touch ht ?_, h3.touch ht ?_, h4, h5⟩
  · rintro rfl
    rw [Blk, h1] at hr
    simp at hr
    exact hk.1 hr.2.symm
  · rintro rfl
    rw [Blk, h2] at hr
    simp at hr
    exact hk.2.1 hr.2.symm
  · rintro rfl
    rw [Blk, h3] at hr
    simp at hr
    have := hk.2.2 hr.2.symm
    omega

/-- The codes of fixed blocks, if they are made. -/
def FixAt (w : World) (K : Nat) (v : Value) : Prop :=
  v = .pointer none ∨ ∃ q p1 p2, v = .pointer (some ⟨q, 0, none⟩) ∧ Blk w q 124 #[.pointer (some ⟨p1, 0, none⟩), .pointer (some ⟨p2, 0, none⟩)] ∧ CodeIn w K p1 fixF ∧ CodeIn w K p2 fixO ∧ q < K
theorem FixAt.mono {w : World} {K K' : Nat} {v : Value} (h : FixAt w K v) (hk : K ≤ K') : FixAt w K' v := by
  rcases h with h | ⟨q, p1, p2, hv, h1, h2, h3, h4⟩
  · exact .inl h
  · exact .inr ⟨q, p1, p2, hv, h1, h2.mono hk, h3.mono hk, Nat.lt_of_lt_of_le h4 hk⟩
theorem FixAt.safe {S : Nat → Prop} {w w' : World} {K : Nat} {v : Value} (h : FixAt w K v) (ht : Touch S w w') (hs : Safe w S) : FixAt w' K v := by
  rcases h with h | ⟨q, p1, p2, hv, h1, h2, h3, h4⟩
  · exact .inl h
  · exact .inr ⟨q, p1, p2, hv, h1.safe ht hs (by decide), h2.safe ht hs, h3.safe ht hs, h4⟩

/-- The cells of a reader. -/
def rc (pb : Nat) (ov : Value) (lim : Nat) (s : Sta) (fx : Value) : Array Value :=
  #[.pointer (some ⟨pb, 0, none⟩), ov, .int .i64 (lim : Nat), .int .i64 (s.steps : Nat), .int .i64 (s.blocks : Nat), fx]

/-- A reader stands at p, so far. -/
structure RS (B K p pb : Nat) (g : Option Nat) (bs : List Nat) (lim : Nat) (w : World) (ov : Value) (s : Sta) : Prop where
  blk : ∃ fx, Blk w p 67 (rc pb ov lim s fx) ∧ FixAt w K fx
  ob : Ob w B 96 pb g bs s.at_
  own : w.ownsRow B 5 1 ov s.out.length (u8s s.out)
  hp : B ≤ p
  row : ∀ k, ov.ownBlock = some k → g ≠ some k
  len : bs.length ≤ 100000
  lim_ : lim ≤ 2000000
  in_ : s.at_ ≤ 8 * bs.length
  out : s.out.length ≤ lim
  steps : s.steps ≤ s.at_
  blocks : s.blocks ≤ s.at_
  bytes : Bs s.out

/-- The blocks of a reader that change. -/
def FT (p pb : Nat) (ov : Value) (k : Nat) : Prop := k = p ∨ k = pb ∨ ov.ownBlock = some k
structure Mv (p pb : Nat) (w : World) (ov : Value) (w' : World) (ov' : Value) : Prop where
  touch : Touch (FT p pb ov) w w'
  row : ∀ k, ov'.ownBlock = some k → ov.ownBlock = some k ∨ w.heap.size ≤ k
theorem Mv.refl (p pb : Nat) (w : World) (ov : Value) : Mv p pb w ov w ov := ⟨Touch.refl _ _, fun _ h => .inl h⟩
theorem Mv.trans {p pb : Nat} {a b c : World} {o1 o2 o3 : Value} (h : Mv p pb a o1 b o2) (k : Mv p pb b o2 c o3) : Mv p pb a o1 c o3 := by
  refine ⟨h.touch.trans' k.touch ?_, fun i hi => ?_⟩
  · rintro i (hi | hi | hi) hlt
    · exact .inl hi
    · exact .inr (.inl hi)
    · rcases h.row i hi with hi | hi
      · exact .inr (.inr hi)
      · omega
  · rcases k.row i hi with hi | hi
    · exact h.row i hi
    · exact .inr (Nat.le_trans h.touch.size hi)
theorem Mv.bad {p pb : Nat} {a b c : World} {o1 o2 : Value} (h : Mv p pb a o1 b o2) (k : Touch (FT p pb o2) b c) : Touch (FT p pb o1) a c :=
  (h.trans ⟨k, fun _ h => .inl h⟩ : Mv p pb a o1 c o2).touch

section
variable {B K p pb : Nat} {g : Option Nat} {bs : List Nat} {lim : Nat} {w : World} {ov : Value} {s : Sta}

theorem own_ty {e size n base : Nat} {v : Value} {xs : List Value} (h : w.ownsRow base e size v n xs) {k : Nat} (hk : v.ownBlock = some k) : ∃ cs, w.heap[k]? = some (.cells cs e (0, 0)) := by
  rcases h.2 with ⟨rfl, _⟩ | ⟨g', cap, cur, rfl, _, hh, _⟩
  · simp [Value.ownBlock] at hk
  · simp [Value.ownBlock] at hk
    subst hk
    exact ⟨cur, hh⟩
theorem RS.mono {K' : Nat} (h : RS B K p pb g bs lim w ov s) (hk : K ≤ K') : RS B K' p pb g bs lim w ov s := by
  obtain ⟨fx, hb, hf⟩ := h.blk
  exact ⟨⟨fx, hb, hf.mono hk⟩, h.ob, h.own, h.hp, h.row, h.len, h.lim_, h.in_, h.out, h.steps, h.blocks, h.bytes⟩
theorem RS.safe (h : RS B K p pb g bs lim w ov s) : Safe w (FT p pb ov) := by
  obtain ⟨fx, hb, _⟩ := h.blk
  obtain ⟨sv, ho, _⟩ := h.ob.blk
  rintro k t cs hk (rfl | rfl | hk')
  · rw [Blk, hb] at hk
    simp at hk
    exact .inl hk.2.symm
  · rw [Blk, ho] at hk
    simp at hk
    exact .inr (.inl hk.2.symm)
  · obtain ⟨cs', hc⟩ := own_ty h.own hk'
    rw [Blk, hc] at hk
    simp at hk
    exact .inr (.inr hk.2.symm)
theorem RS.ne (h : RS B K p pb g bs lim w ov s) : p ≠ pb ∧ (∀ k, ov.ownBlock = some k → k ≠ p ∧ k ≠ pb) ∧ (∀ k, g = some k → k ≠ p ∧ k ≠ pb) := by
  obtain ⟨fx, hb, _⟩ := h.blk
  obtain ⟨sv, ho, hg, hs⟩ := h.ob.blk
  have hs' : ∀ k, g = some k → k ≠ p ∧ k ≠ pb := by
    intro k hk
    rw [← hg] at hk
    obtain ⟨cs', hc⟩ := own_ty hs hk
    constructor
    · rintro rfl
      rw [Blk, hc] at hb
      simp at hb
    · rintro rfl
      rw [hc] at ho
      simp at ho
  refine ⟨?_, ?_, hs'⟩
  · rintro rfl
    rw [Blk, ho] at hb
    simp at hb
  · intro k hk
    obtain ⟨cs', hc⟩ := own_ty h.own hk
    constructor
    · rintro rfl
      rw [Blk, hc] at hb
      simp at hb
    · rintro rfl
      rw [hc] at ho
      simp at ho
theorem RS.base (h : RS B K p pb g bs lim w ov s) : ∀ k, FT p pb ov k → B ≤ k := by
  rintro k (rfl | rfl | hk)
  · exact h.hp
  · exact h.ob.hp
  · exact (h.own.lt k hk).1
theorem RS.size (h : RS B K p pb g bs lim w ov s) : B ≤ w.heap.size := by
  obtain ⟨fx, hb, _⟩ := h.blk
  have := hb.lt
  have := h.hp
  omega
theorem RS.below {w' : World} (h : RS B K p pb g bs lim w ov s) (k : Touch (FT p pb ov) w w') : Below B w w' := k.below h.size h.base

/-- The cells that a walk wants. -/
structure Rcs (w : World) (p pb : Nat) (ov : Value) (lim : Nat) (s : Sta) : Prop where
  c0 : w.cell? ⟨p, 0, none⟩ = some (.pointer (some ⟨pb, 0, none⟩))
  c1 : w.cell? ⟨p, 1, none⟩ = some ov
  c2 : w.cell? ⟨p, 2, none⟩ = some (.int .i64 (lim : Nat))
  c3 : w.cell? ⟨p, 3, none⟩ = some (.int .i64 (s.steps : Nat))
  c4 : w.cell? ⟨p, 4, none⟩ = some (.int .i64 (s.blocks : Nat))
  f1 : w.frozen? ⟨p, 1, none⟩ = false
  f3 : w.frozen? ⟨p, 3, none⟩ = false
  f4 : w.frozen? ⟨p, 4, none⟩ = false
  f5 : w.frozen? ⟨p, 5, none⟩ = false
theorem RS.cells (h : RS B K p pb g bs lim w ov s) : Rcs w p pb ov lim s := by
  obtain ⟨fx, hb, _⟩ := h.blk
  exact ⟨(hb.cell 0).trans rfl, (hb.cell 1).trans rfl, (hb.cell 2).trans rfl, (hb.cell 3).trans rfl, (hb.cell 4).trans rfl, hb.free 1, hb.free 3, hb.free 4, hb.free 5⟩

/-- Only the place has changed. -/
theorem RS.moved {m : Nat} {w' : World} (h : RS B K p pb g bs lim w ov s) (k : Moved w B 96 pb g bs m w') (hm : s.at_ ≤ m) (hm' : m ≤ 8 * bs.length) :
    RS B K p pb g bs lim w' ov { s with at_ := m } ∧ Mv p pb w ov w' ov := by
  obtain ⟨ho, ht⟩ := k
  obtain ⟨n1, n2, n3⟩ := h.ne
  have hT : Touch (FT p pb ov) w w' := ht.mono fun i hi => .inr (.inl hi)
  obtain ⟨fx, hb, hf⟩ := h.blk
  refine ⟨⟨⟨fx, hb.touch ht n1, hf.safe hT h.safe⟩, ho, ownsRow_touch h.own ht fun i hi e => (n2 i hi).2 e, h.hp, h.row, h.len, h.lim_, hm', h.out, Nat.le_trans h.steps hm, Nat.le_trans h.blocks hm, h.bytes⟩, hT, fun _ x => .inl x⟩
theorem RS.drewN (h : RS B K p pb g bs lim w ov s) (q : Nat) : RS B K p pb g bs lim (w.drewN q) ov s ∧ Mv p pb w ov (w.drewN q) ov := by
  have := h.moved ⟨h.ob.drewN q, (Touch.refl _ w).drewN q⟩ (Nat.le_refl _) h.in_
  exact ⟨this.1, this.2⟩
/-- A call that only makes memory. -/
theorem RS.grow {w' : World} (h : RS B K p pb g bs lim w ov s) (k : Below w.heap.size w w') : RS B K p pb g bs lim w' ov s ∧ Mv p pb w ov w' ov := by
  have ht : Touch (fun _ => False) w w' := Touch.of_below k
  have := h.moved (m := s.at_) ⟨h.ob.touch ht fun _ _ h => h, Touch.of_below k⟩ (Nat.le_refl _) h.in_
  exact ⟨this.1, this.2⟩
/-- The steps, counted. -/
theorem RS.setSteps (h : RS B K p pb g bs lim w ov s) (m : Nat) (hm : m ≤ s.at_) {x : Int} (hx : x = (m : Int)) :
    RS B K p pb g bs lim (w.setCell ⟨p, 3, none⟩ (.int .i64 x)) ov { s with steps := m } ∧ Mv p pb w ov (w.setCell ⟨p, 3, none⟩ (.int .i64 x)) ov := by
  subst hx
  obtain ⟨n1, n2, n3⟩ := h.ne
  have ht : Touch (fun k => k = p) w (w.setCell ⟨p, 3, none⟩ (.int .i64 (m : Nat))) := (Touch.refl _ w).setCell _ _ (.inl rfl)
  have hT : Touch (FT p pb ov) w (w.setCell ⟨p, 3, none⟩ (.int .i64 (m : Nat))) := ht.mono fun i hi => .inl hi
  obtain ⟨fx, hb, hf⟩ := h.blk
  exact ⟨⟨⟨fx, hb.setCell 3 _, hf.safe hT h.safe⟩, h.ob.touch ht fun k hk e => by rcases hk with hk | hk; exact n1 (e.symm.trans hk); exact (n3 k hk).1 e, ownsRow_touch h.own ht fun i hi e => (n2 i hi).1 e, h.hp, h.row, h.len, h.lim_, h.in_, h.out, hm, h.blocks, h.bytes⟩, hT, fun _ x => .inl x⟩
theorem RS.setBlocks (h : RS B K p pb g bs lim w ov s) (m : Nat) (hm : m ≤ s.at_) {x : Int} (hx : x = (m : Int)) :
    RS B K p pb g bs lim (w.setCell ⟨p, 4, none⟩ (.int .i64 x)) ov { s with blocks := m } ∧ Mv p pb w ov (w.setCell ⟨p, 4, none⟩ (.int .i64 x)) ov := by
  subst hx
  obtain ⟨n1, n2, n3⟩ := h.ne
  have ht : Touch (fun k => k = p) w (w.setCell ⟨p, 4, none⟩ (.int .i64 (m : Nat))) := (Touch.refl _ w).setCell _ _ (.inl rfl)
  have hT : Touch (FT p pb ov) w (w.setCell ⟨p, 4, none⟩ (.int .i64 (m : Nat))) := ht.mono fun i hi => .inl hi
  obtain ⟨fx, hb, hf⟩ := h.blk
  exact ⟨⟨⟨fx, hb.setCell 4 _, hf.safe hT h.safe⟩, h.ob.touch ht fun k hk e => by rcases hk with hk | hk; exact n1 (e.symm.trans hk); exact (n3 k hk).1 e, ownsRow_touch h.own ht fun i hi e => (n2 i hi).1 e, h.hp, h.row, h.len, h.lim_, h.in_, h.out, h.steps, hm, h.bytes⟩, hT, fun _ x => .inl x⟩
/-- More bytes, in a row that is an old one or a new one. -/
theorem RS.setOut {w1 : World} {ov' : Value} {xs : List Nat} (h : RS B K p pb g bs lim w ov s) (hA : Apd w B ov xs ov' w1) (hx : xs.length ≤ lim) (hb' : Bs xs) :
    RS B K p pb g bs lim (w1.setCell ⟨p, 1, none⟩ ov') ov' { s with out := xs } ∧ Mv p pb w ov (w1.setCell ⟨p, 1, none⟩ ov') ov' := by
  obtain ⟨n1, n2, n3⟩ := h.ne
  obtain ⟨fx, hb, hf⟩ := h.blk
  have hp := hb.lt
  have hT1 : Touch (FT p pb ov) w w1 := hA.touch.mono fun i hi => .inr (.inr hi)
  have hT : Touch (FT p pb ov) w (w1.setCell ⟨p, 1, none⟩ ov') := hT1.setCell _ _ (.inl (.inl rfl))
  have ht2 : Touch (fun k => k = p) w1 (w1.setCell ⟨p, 1, none⟩ ov') := (Touch.refl _ w1).setCell _ _ (.inl rfl)
  have hb1 : Blk w1 p 67 (rc pb ov lim s fx) := hb.touch hA.touch fun e => (n2 _ e).1 rfl
  have hg := h.ob.lt.2
  have ho1 : Ob w1 B 96 pb g bs s.at_ := h.ob.touch hA.touch fun k hk e => by
    rcases hk with rfl | hk
    · exact (n2 _ e).2 rfl
    · exact h.row k e hk
  refine ⟨⟨⟨fx, hb1.setCell 1 _, hf.safe hT h.safe⟩, ho1.touch ht2 fun k hk e => ?_, ownsRow_touch hA.own ht2 fun i hi e => ?_, h.hp, fun k hk hgk => ?_, h.len, h.lim_, h.in_, hx, h.steps, h.blocks, hb'⟩, hT, hA.row⟩
  · rcases hk with hk | hk
    · exact n1 (e.symm.trans hk)
    · exact (n3 k hk).1 e
  · rcases hA.row i hi with h1 | h1
    · exact (n2 i h1).1 e
    · omega
  · rcases hA.row k hk with h1 | h1
    · exact h.row k h1 hgk
    · have := hg k hgk
      omega
/-- What a call that goes well leaves. -/
def ROk (B K p pb : Nat) (g : Option Nat) (bs : List Nat) (lim : Nat) (w : World) (ov : Value) (v : Value) (s : Sta) (e : Ending) (w' : World) : Prop :=
  e = .returned v ∧ ∃ ov', RS B K p pb g bs lim w' ov' s ∧ Mv p pb w ov w' ov'
/-- What a fault leaves. -/
def RBad (p pb : Nat) (w : World) (ov : Value) (er : Nat) (e : Ending) (w' : World) : Prop := e = pan er ∧ Touch (FT p pb ov) w w'
def RTo {α : Type} (B K p pb : Nat) (g : Option Nat) (bs : List Nat) (lim : Nat) (w : World) (ov : Value) (enc : α → Value) (r : Res α) (e : Ending) (w' : World) : Prop :=
  match r with
  | .bad er => RBad p pb w ov er e w'
  | .ok a s => ROk B K p pb g bs lim w ov (enc a) s e w'
end
end Go.Proofs.YtnnkegpnjedneaaDoor

/-
  Next of a code, where the reader is the elder one; number, symbol, needRoom, grown of inflate's reader.
-/
namespace Go.Proofs.YtnnkegpnjedneaaDoor
open Go.RowKit
set_option maxRecDepth 100000

theorem Moved.on {w w2 : World} {B t p m q : Nat} {g : Option Nat} {bs : List Nat} (h : Moved (w.drewN q) B t p g bs m w2) : Moved w B t p g bs m w2 :=
  ⟨h.1, ((Touch.refl _ w).drewN q).trans h.2⟩
theorem peekX {w : World} {base p : Nat} {g : Option Nat} {bs : List Nat} {at_ : Nat} (h : Ob w base 96 p g bs at_) (hl : bs.length ≤ 100000) (ha : at_ ≤ 8 * bs.length) (X : Nat) (hX : pk bs at_ 15 = X) :
    Calls Tryd.prog 73 #[.pointer (some ⟨p, 0, none⟩), .int .i64 15] w fun e w' => e = .returned (.int .u32 X) ∧ w = w' := by
  subst hX
  exact h.peek (by omega) ha 15 (by omega)

def NextTo (w : World) (B p : Nat) (g : Option Nat) (bs : List Nat) (r : Res Nat) (e : Ending) (w' : World) : Prop :=
  match r with
  | .bad er => e = .returned (.tuple #[.int .i64 0, .int .i64 (er : Nat)]) ∧ ∃ nq, w' = w.drewN nq
  | .ok y t => e = .returned (.tuple #[.int .i64 (y : Nat), .int .i64 0]) ∧ Moved w B 96 p g bs t.at_ w'

set_option maxHeartbeats 1600000 in
theorem next_ok {w : World} {p pr at_ B : Nat} {g : Option Nat} {bs ls : List Nat} (h : CodeAt w p ls) (hr : Ob w B 96 pr g bs at_) (hl : bs.length ≤ 100000) (s : Nat) (hb : Beg ls (ahead bs at_) s) (hle : at_ + ln ls s ≤ 8 * bs.length) :
    Calls Tryd.prog 88 #[.pointer (some ⟨p, 0, none⟩), .pointer (some ⟨pr, 0, none⟩)] w fun e w' => e = .returned (.tuple #[.int .i64 s, .int .i64 0]) ∧ Moved w B 96 pr g bs (at_ + ln ls s) w' := by
  have HO := Lib.hid h.ok
  have HC := Lib.hid h
  have HR := Lib.hid hr
  have hX := pk_lt bs at_ 15
  have hA := ahead_lt bs at_
  have HB := Lib.hid hb
  obtain ⟨X, hXe⟩ : ∃ X, X = pk bs at_ 15 := ⟨_, rfl⟩
  obtain ⟨A, hAe⟩ : ∃ A, A = rv 15 X := ⟨_, rfl⟩
  obtain ⟨m, hm⟩ : ∃ m, m = ln ls s := ⟨_, rfl⟩
  have hm1 : 1 ≤ m := by have := hb.1; omega
  have hm15 : m ≤ 15 := by have := ln_le h.ok s; omega
  have hA' : A = ahead bs at_ := by unfold ahead; rw [hAe, hXe]
  rw [← hXe] at hX
  rw [← hA'] at hA
  rw [← hm] at hle
  have HX := Lib.hid hXe.symm
  have HA := Lib.hid hAe.symm
  have HA' := Lib.hid hA'
  have HM := Lib.hid hm
  clear h hr hXe hAe hA' hb
  rw [← hm]
  clear hm
  have hX' : X < 4294967296 := by omega
  have d1 : decide ((8 * (bs.length : Int) - at_) < m) = false := by simp; omega
  have d2 : ((8 * (bs.length : Int) - at_) == 0) = false := by simp; omega
  have d3 : ((m : Int) == 0) = false := by simp; omega
  have hK : Hid (∀ W, CodeAt W p ls → Calls Tryd.prog 93 #[.pointer (some ⟨p, 0, none⟩), .int .i64 A] W fun e w' => e = .returned (.tuple #[.int .i64 s, .int .i64 m]) ∧ ∃ nq, w' = W.drewN nq) := Lib.hid fun W hW => (find_any p A ls W hW hA).mono fun e w' k => by
    refine ⟨?_, k.2⟩
    rcases k.1 with ⟨t, ht, he⟩ | ⟨hro, _⟩
    · rw [HA'.out] at ht
      obtain rfl := beg_one HO.out HB.out ht
      rw [he, HM.out]
    · exact absurd HB.out (none_of HO.out (by rw [← HA'.out]; exact hro) s)
  go_enter Tryd.func88, Tryd.ntmps88
  go_wp2_with (first
    | (go_at_call 73; (refine (peekX HR.out hl (by omega) X HX.out).mono ?_); rintro e w2 ⟨rfl, rfl⟩)
    | (go_at_call 56; (refine (reverse_yes X 15 _ hX' (by omega)).mono ?_); rw [HA.out]; rintro e w2 ⟨rfl, rfl⟩)
    | (go_at_call 93; (refine (hK.out _ HC.out).mono ?_); rintro e w2 ⟨rfl, nq, rfl⟩)
    | (go_at_call 86; (refine ((HR.out.drewN _).left (by omega) (by omega)).mono ?_); rintro e w3 ⟨rfl, nq3, rfl⟩)
    | (go_at_call 74; (refine ((HR.out.drewN _).skip_yes (by omega) m (by omega)).mono ?_); rintro e w4 ⟨rfl, hr4⟩; have HR4 := Lib.hid hr4; clear hr4))
  go_ret2
  exact ⟨rfl, HR4.out.on⟩

set_option maxHeartbeats 1600000 in
theorem next_bad {w : World} {p pr at_ B : Nat} {g : Option Nat} {bs ls : List Nat} (h : CodeAt w p ls) (hr : Ob w B 96 pr g bs at_) (hl : bs.length ≤ 100000) (ha : at_ ≤ 8 * bs.length) (t m : Nat) (hm : m ≤ 15) (hf : Finds p (ahead bs at_) ls t m) (er : Nat)
    (hc : (er = 15 ∧ (8 * bs.length < at_ + m ∨ at_ = 8 * bs.length)) ∨ (er = 10 ∧ m = 0 ∧ at_ < 8 * bs.length)) :
    Calls Tryd.prog 88 #[.pointer (some ⟨p, 0, none⟩), .pointer (some ⟨pr, 0, none⟩)] w fun e w' => e = .returned (.tuple #[.int .i64 0, .int .i64 (er : Nat)]) ∧ ∃ nq, w' = w.drewN nq := by
  have HC := Lib.hid h
  have HR := Lib.hid hr
  have hX := pk_lt bs at_ 15
  have hA := ahead_lt bs at_
  obtain ⟨X, hXe⟩ : ∃ X, X = pk bs at_ 15 := ⟨_, rfl⟩
  obtain ⟨A, hAe⟩ : ∃ A, A = rv 15 X := ⟨_, rfl⟩
  have hA' : A = ahead bs at_ := by unfold ahead; rw [hAe, hXe]
  rw [← hA'] at hf hA
  rw [← hXe] at hX
  have HX := Lib.hid hXe.symm
  have HA := Lib.hid hAe.symm
  have HF : Hid (∀ W, CodeAt W p ls → Calls Tryd.prog 93 #[.pointer (some ⟨p, 0, none⟩), .int .i64 A] W fun e w' => e = .returned (.tuple #[.int .i64 t, .int .i64 m]) ∧ ∃ nq, w' = W.drewN nq) := Lib.hid hf
  clear h hr hXe hAe hA' hf
  have hX' : X < 4294967296 := by omega
  rcases hc with ⟨rfl, hc⟩ | ⟨rfl, rfl, hc⟩
  · by_cases h1 : 8 * bs.length < at_ + m
    · have d1 : decide ((8 * (bs.length : Int) - at_) < m) = true := by simp; omega
      clear hc
      go_enter Tryd.func88, Tryd.ntmps88
      go_wp2_with (first
        | (go_at_call 73; (refine (peekX HR.out hl (by omega) X HX.out).mono ?_); rintro e w2 ⟨rfl, rfl⟩)
        | (go_at_call 56; (refine (reverse_yes X 15 _ hX' (by omega)).mono ?_); rw [HA.out]; rintro e w2 ⟨rfl, rfl⟩)
        | (go_at_call 93; (with_reducible refine (HF.out _ HC.out).mono ?_); rintro e w2 ⟨rfl, nq, rfl⟩)
        | (go_at_call 86; (refine ((HR.out.drewN _).left (by omega) (by omega)).mono ?_); rintro e w3 ⟨rfl, nq3, rfl⟩))
      go_ret2
      exact ⟨rfl, _, rfl⟩
    · have h2 : at_ = 8 * bs.length := by omega
      have h3 : m = 0 := by omega
      have d1 : decide ((8 * (bs.length : Int) - at_) < (0 : Nat)) = false := by simp; omega
      have d2 : ((8 * (bs.length : Int) - at_) == 0) = true := by simp; omega
      have H2 := Lib.hid h2
      subst h3
      clear hc h1 h2
      go_enter Tryd.func88, Tryd.ntmps88
      go_wp2_with (first
        | (go_at_call 73; (refine (peekX HR.out hl (by omega) X HX.out).mono ?_); rintro e w2 ⟨rfl, rfl⟩)
        | (go_at_call 56; (refine (reverse_yes X 15 _ hX' (by omega)).mono ?_); rw [HA.out]; rintro e w2 ⟨rfl, rfl⟩)
        | (go_at_call 93; (with_reducible refine (HF.out _ HC.out).mono ?_); rintro e w2 ⟨rfl, nq, rfl⟩)
        | (go_at_call 86; (refine ((HR.out.drewN _).left (by omega) (by omega)).mono ?_); rintro e w3 ⟨rfl, nq3, rfl⟩))
      go_ret2
      exact ⟨rfl, _, rfl⟩
  · have d1 : decide ((8 * (bs.length : Int) - at_) < (0 : Nat)) = false := by simp; omega
    have d2 : ((8 * (bs.length : Int) - at_) == 0) = false := by simp; omega
    go_enter Tryd.func88, Tryd.ntmps88
    go_wp2_with (first
      | (go_at_call 73; (refine (peekX HR.out hl (by omega) X HX.out).mono ?_); rintro e w2 ⟨rfl, rfl⟩)
      | (go_at_call 56; (refine (reverse_yes X 15 _ hX' (by omega)).mono ?_); rw [HA.out]; rintro e w2 ⟨rfl, rfl⟩)
      | (go_at_call 93; (with_reducible refine (HF.out _ HC.out).mono ?_); rintro e w2 ⟨rfl, nq, rfl⟩)
      | (go_at_call 86; (refine ((HR.out.drewN _).left (by omega) (by omega)).mono ?_); rintro e w3 ⟨rfl, nq3, rfl⟩))
    go_ret2
    exact ⟨rfl, _, rfl⟩

theorem next_any {w : World} {p pr B : Nat} {g : Option Nat} {bs ls : List Nat} {s : Sta} (h : CodeAt w p ls) (hr : Ob w B 96 pr g bs s.at_) (hl : bs.length ≤ 100000) (ha : s.at_ ≤ 8 * bs.length) :
    Calls Tryd.prog 88 #[.pointer (some ⟨p, 0, none⟩), .pointer (some ⟨pr, 0, none⟩)] w (NextTo w B pr g bs (rdS bs ls s)) := by
  have hf := finds_some (p := p) h.ok (ahead_lt bs s.at_)
  by_cases h1 : s.at_ = 8 * bs.length
  · have hr' : rdS bs ls s = .bad 15 := by unfold rdS; rw [if_pos h1]
    rw [hr']
    rcases hf with ⟨y, hb, hF⟩ | ⟨_, hF⟩
    · exact next_bad h hr hl ha y _ (ln_le h.ok y) hF 15 (.inl ⟨rfl, .inr h1⟩)
    · exact next_bad h hr hl ha 0 0 (by omega) hF 15 (.inl ⟨rfl, .inr h1⟩)
  · rcases hf with ⟨y, hb, hF⟩ | ⟨hro, hF⟩
    · by_cases h2 : s.at_ + ln ls y ≤ 8 * bs.length
      · have hr' : rdS bs ls s = .ok y { s with at_ := s.at_ + ln ls y } := by unfold rdS; rw [if_neg h1, findB_of h.ok hb]; simp only; rw [if_pos h2]
        rw [hr']
        exact next_ok h hr hl y hb h2
      · have hr' : rdS bs ls s = .bad 15 := by unfold rdS; rw [if_neg h1, findB_of h.ok hb]; simp only; rw [if_neg h2]
        rw [hr']
        exact next_bad h hr hl ha y _ (ln_le h.ok y) hF 15 (.inl ⟨rfl, .inl (by omega)⟩)
    · have hr' : rdS bs ls s = .bad 10 := by
        unfold rdS
        rw [if_neg h1]
        cases hfb : findB ls (ahead bs s.at_) with
        | none => rfl
        | some z => exact absurd (findB_some hfb) (none_of h.ok hro z)
      rw [hr']
      exact next_bad h hr hl ha 0 0 (by omega) hF 10 (.inr ⟨rfl, rfl, by omega⟩)

section
variable {B K p pb : Nat} {g : Option Nat} {bs : List Nat} {lim : Nat} {w : World} {ov : Value} {s : Sta}
abbrev nv (n : Nat) : Value := .int .i64 (n : Nat)

theorem number_any (h : RS B K p pb g bs lim w ov s) (n : Nat) (hn : n ≤ 16) :
    Calls Tryd.prog 52 #[.pointer (some ⟨p, 0, none⟩), .int .i64 n] w (RTo B K p pb g bs lim w ov nv (rdN bs n s)) := by
  have hl := h.len
  have hi := h.in_
  obtain ⟨c0⟩ := h.cells
  by_cases hle : s.at_ + n ≤ 8 * bs.length
  · have hr : rdN bs n s = .ok (pk bs s.at_ n) { s with at_ := s.at_ + n } := by unfold rdN; rw [if_pos hle]
    rw [hr]
    have hV := pk_lt bs s.at_ n
    have hV2 : pk bs s.at_ n < 65536 := Nat.lt_of_lt_of_le hV (Nat.le_trans (Nat.pow_le_pow_right (by omega) hn) (by decide : 2 ^ 16 ≤ 65536))
    have HB := Lib.hid (h.ob.bits_yes (by omega) n (by omega) hle)
    have HM := Lib.hid fun w' (k : Moved w B 96 pb g bs (s.at_ + n) w') => h.moved k (by omega) hle
    obtain ⟨V, hVe⟩ : ∃ V, V = pk bs s.at_ n := ⟨_, rfl⟩
    rw [← hVe] at hV2 HB ⊢
    clear h hr hV hVe
    go_enter Tryd.func52, Tryd.ntmps52
    go_wp2_with (first
      | (go_at_call 65; (refine HB.out.mono ?_); rintro e w2 ⟨rfl, hm⟩; have H2 := Lib.hid (HM.out _ hm); clear hm)
      | (go_at_call 66; refine (must_yes _ _).mono ?_; rintro e w3 ⟨rfl, rfl⟩))
    go_ret
    exact ⟨rfl, ov, H2.out⟩
  · have hr : rdN bs n s = .bad 15 := by unfold rdN; rw [if_neg hle]
    rw [hr]
    have HB := Lib.hid (h.ob.bits_no (by omega) hi n (by omega))
    clear h hr
    go_enter Tryd.func52, Tryd.ntmps52
    go_wp2_with (first
      | (go_at_call 65; (refine HB.out.mono ?_); rintro e w2 ⟨rfl, nq, rfl⟩)
      | (go_at_call 66; refine (must_no 15 _).mono ?_; rintro e w3 ⟨rfl, rfl⟩))
    exact ⟨rfl, rfl, (Touch.refl _ w).drewN nq⟩

theorem symbol_any {pc : Nat} {ls : List Nat} (h : RS B K p pb g bs lim w ov s) (hc : CodeAt w pc ls) :
    Calls Tryd.prog 78 #[.pointer (some ⟨p, 0, none⟩), .pointer (some ⟨pc, 0, none⟩)] w (RTo B K p pb g bs lim w ov nv (rdS bs ls s)) := by
  obtain ⟨c0⟩ := h.cells
  have HN := Lib.hid (next_any hc h.ob h.len h.in_)
  have H := Lib.hid h
  cases hr : rdS bs ls s with
  | bad er =>
    rw [hr] at HN
    have her : er = 15 ∨ er = 10 := by
      unfold rdS at hr
      split at hr
      · cases hr; exact .inl rfl
      · split at hr
        · cases hr; exact .inr rfl
        · split at hr
          · cases hr
          · cases hr; exact .inl rfl
    have hd : ((er : Int) == 0) = false := by simp; omega
    clear h hc hr her
    go_enter Tryd.func78, Tryd.ntmps78
    go_wp2_with (first
      | (go_at_call 88; (refine HN.out.mono ?_); rintro e w2 ⟨rfl, nq, rfl⟩)
      | (go_at_call 66; refine (must_no er _).mono ?_; rintro e w3 ⟨rfl, rfl⟩))
    exact ⟨rfl, rfl, (Touch.refl _ w).drewN nq⟩
  | ok y t =>
    rw [hr] at HN
    obtain ⟨_, k1, k2, k3⟩ := rdS_is hr
    have HK := Lib.hid (And.intro k2 k3)
    clear h hc hr k1 k2 k3
    go_enter Tryd.func78, Tryd.ntmps78
    go_wp2_with (first
      | (go_at_call 88; (refine HN.out.mono ?_); rintro e w2 ⟨rfl, hm⟩; have HM := Lib.hid hm; clear hm)
      | (go_at_call 66; refine (must_yes _ _).mono ?_; rintro e w3 ⟨rfl, rfl⟩))
    go_ret
    obtain ⟨k2, rfl⟩ := HK.out
    exact ⟨rfl, ov, H.out.moved HM.out (Nat.le_add_right _ _) k2⟩
end
end Go.Proofs.YtnnkegpnjedneaaDoor

/-
  needRoom, grown and again of inflate's reader.
-/
namespace Go.Proofs.YtnnkegpnjedneaaDoor
open Go.RowKit
set_option maxRecDepth 100000

section
variable {B K p pb : Nat} {g : Option Nat} {bs : List Nat} {lim : Nat} {w : World} {ov : Value} {s : Sta}

def Roomy (w : World) (ok : Bool) (e : Ending) (w' : World) : Prop := (if ok then e = .returned (.tuple #[]) else e = pan 14) ∧ ∃ nq, w' = w.drewN nq
theorem RS.slice (h : RS B K p pb g bs lim w ov s) : ∃ ao c, ov = .slice ao s.out.length c := own_shape h.own
theorem needRoom_any (h : RS B K p pb g bs lim w ov s) (n : Nat) :
    Calls Tryd.prog 77 #[.pointer (some ⟨p, 0, none⟩), .int .i64 n] w (Roomy w (decide (s.out.length + n ≤ lim))) := by
  have ho := h.out
  have hl := h.lim_
  have k := h.cells
  have c1 := k.c1
  have c2 := k.c2
  obtain ⟨ao, c, rfl⟩ := h.slice
  obtain ⟨m, hm⟩ : ∃ m, m = s.out.length := ⟨_, rfl⟩
  rw [← hm] at ho c1 ⊢
  clear h k hm
  have e1 : IntKind.i64.wrap ((lim : Int) - (m : Int)) = ((lim - m : Nat) : Int) := by rw [IntKind.wrap_i64]; omega
  obtain ⟨d, hd⟩ : ∃ d, d = lim - m := ⟨_, rfl⟩
  rw [← hd] at e1
  by_cases hr : m + n ≤ lim
  · have d1 : decide (n ≤ d) = true := by simp; omega
    have d2 : decide ((n : Int) ≤ (d : Int)) = true := by simp; omega
    rw [decide_eq_true hr]
    clear hd hr
    go_enter Tryd.func77, Tryd.ntmps77
    go_still_tail 12, (by kernel_rfl)
    change wpList _ _ _ _ _ w.drew
    go_wp2_with (go_at_call 66; refine (must_yes _ _).mono ?_; rintro e w3 ⟨rfl, rfl⟩)
    go_end0
    exact ⟨rfl, 1, rfl⟩
  · have d1 : decide (n ≤ d) = false := by simp; omega
    have d2 : decide ((n : Int) ≤ (d : Int)) = false := by simp; omega
    rw [decide_eq_false hr]
    clear hd hr
    go_enter Tryd.func77, Tryd.ntmps77
    go_still_tail 12, (by kernel_rfl)
    change wpList _ _ _ _ _ w.drew
    go_wp2_with (go_at_call 66; refine (must_no 14 _).mono ?_; rintro e w3 ⟨rfl, rfl⟩)
    exact ⟨rfl, rfl, 1, rfl⟩

theorem grown_none : Calls Tryd.prog 89 #[.pointer (some ⟨p, 0, none⟩), .int .i64 0, .int .i64 0, .bool false] w (RBad p pb w ov 10) := by
  go_enter Tryd.func89, Tryd.ntmps89
  go_wp2_with (go_at_call 66; refine (must_no 10 _).mono ?_; rintro e w3 ⟨rfl, rfl⟩)
  exact ⟨rfl, rfl, Touch.refl _ _⟩
theorem grown_some (h : RS B K p pb g bs lim w ov s) (x : Nat × Nat) (h1 : x.1 ≤ 100000) (h2 : x.2 ≤ 16) :
    Calls Tryd.prog 89 #[.pointer (some ⟨p, 0, none⟩), .int .i64 x.1, .int .i64 x.2, .bool true] w (RTo B K p pb g bs lim w ov nv (grown bs (some x) s)) := by
  have HN := Lib.hid (number_any h x.2 h2)
  obtain ⟨a, b⟩ := x
  simp only at h1 h2 ⊢
  unfold grown
  cases hr : rdN bs b s with
  | bad er =>
    simp only [hr] at HN
    simp only [hr, Res.bind_bad]
    clear h hr
    go_enter Tryd.func89, Tryd.ntmps89
    go_wp2_with (first
      | (go_at_call 66; refine (must_yes _ _).mono ?_; rintro e w3 ⟨rfl, rfl⟩)
      | (go_at_call 52; (refine HN.out.mono ?_); rintro e w2 ⟨rfl, ht⟩))
    exact ⟨rfl, rfl, ht⟩
  | ok v t =>
    simp only [hr] at HN
    simp only [hr, Res.bind_ok]
    have hv : v < 65536 := by
      obtain ⟨_, h4, _⟩ := rdN_is hr
      rw [h4]
      exact Nat.lt_of_lt_of_le (pk_lt bs s.at_ b) (Nat.le_trans (Nat.pow_le_pow_right (by omega) h2) (by decide : 2 ^ 16 ≤ 65536))
    clear h hr
    go_enter Tryd.func89, Tryd.ntmps89
    go_wp2_with (first
      | (go_at_call 66; refine (must_yes _ _).mono ?_; rintro e w3 ⟨rfl, rfl⟩)
      | (go_at_call 52; (refine HN.out.mono ?_); rintro e w2 ⟨rfl, ht⟩; have HT := Lib.hid ht; clear ht))
    go_ret
    exact ⟨by simp [nv], HT.out⟩

theorem lenOf_le {y : Nat} {x : Nat × Nat} (h : lenOf y = some x) : x.1 ≤ 1000 ∧ x.2 ≤ 16 := by
  unfold lenOf at h
  split at h
  · cases h
  · split at h
    · cases h; exact ⟨by decide, by decide⟩
    · split at h
      · cases h; exact ⟨by show y - 254 ≤ 1000; omega, Nat.zero_le _⟩
      · cases h
        have h1 : (y - 257) / 4 - 1 ≤ 6 := by omega
        have h2 : 2 ^ ((y - 257) / 4 - 1) ≤ 2 ^ 6 := Nat.pow_le_pow_right (by omega) h1
        have h3 := Nat.mul_le_mul (show 4 + (y - 257) % 4 ≤ 8 by omega) h2
        exact ⟨by show 3 + _ ≤ 1000; omega, by show (y - 257) / 4 - 1 ≤ 16; omega⟩
theorem disOf_le {y : Nat} {x : Nat × Nat} (h : disOf y = some x) : 1 ≤ x.1 ∧ x.1 ≤ 60000 ∧ x.2 ≤ 16 := by
  unfold disOf at h
  split at h
  · cases h
  · split at h
    · cases h; exact ⟨by show 1 ≤ 1 + y; omega, by show 1 + y ≤ 60000; omega, Nat.zero_le _⟩
    · cases h
      have h1 : y / 2 - 1 ≤ 13 := by omega
      have h2 : 2 ^ (y / 2 - 1) ≤ 2 ^ 13 := Nat.pow_le_pow_right (by omega) h1
      have h3 := Nat.mul_le_mul (show 2 + y % 2 ≤ 3 by omega) h2
      exact ⟨by show 1 ≤ 1 + _; omega, by show 1 + _ ≤ 60000; omega, by show y / 2 - 1 ≤ 16; omega⟩
theorem back_succ (far n : Nat) : ∀ l, back far (n + 1) l = back far n l ++ [(back far n l).getD ((back far n l).length - far) 0] := by
  induction n with
  | zero => intro l; rfl
  | succ n ih => intro l; rw [back, ih]; rfl
theorem tells_some (x : Nat × Nat) : tells (some x) = .tuple #[.int .i64 (x.1 : Nat), .int .i64 (x.2 : Nat), .bool true] := rfl

/-- A byte more, in a drawn order. -/
theorem RS.mid {w1 : World} {ov' : Value} {xs : List Nat} {o : Obj} (h : RS B K p pb g bs lim w ov s) (hA : Apd (w.alloc o).drew B ov xs ov' w1) (hx : xs.length ≤ lim) (hb' : Bs xs) :
    w1.cell? ⟨p, 1, none⟩ = some ov ∧ w1.frozen? ⟨p, 1, none⟩ = false ∧ RS B K p pb g bs lim (w1.setCell ⟨p, 1, none⟩ ov') ov' { s with out := xs } ∧ Mv p pb w ov (w1.setCell ⟨p, 1, none⟩ ov') ov' := by
  obtain ⟨h1, k1⟩ := h.grow (below_drew ((Below.refl _ w).alloc (Nat.le_refl _) o))
  obtain ⟨fx, hb, _⟩ := h1.blk
  have hb1 : Blk w1 p 67 (rc pb ov lim s fx) := hb.touch hA.touch fun e => ((h1.ne).2.1 _ e).1 rfl
  obtain ⟨h2, k2⟩ := h1.setOut hA hx hb'
  exact ⟨(hb1.cell 1).trans rfl, hb1.free 1, h2, k1.trans k2⟩
/-- A cell of the bytes so far. -/
theorem RS.byte (h : RS B K p pb g bs lim w ov s) (k : Nat) (hk : k < s.out.length) : ∃ b c, ov = .slice (some ⟨b, 0, none⟩) s.out.length c ∧ s.out.length ≤ c ∧ w.cell? ⟨b, k, none⟩ = some (.int .u8 (s.out.getD k 0 : Nat)) := by
  rcases h.own.2 with ⟨_, hl⟩ | ⟨g', cap, cur, rfl, _, hh, hc, _⟩
  · omega
  · exact ⟨g', cap, rfl, hc, row_cell h.own k hk⟩

end
end Go.Proofs.YtnnkegpnjedneaaDoor

/-
  again of inflate's reader.
-/
namespace Go.Proofs.YtnnkegpnjedneaaDoor
open Go.RowKit
set_option maxRecDepth 100000

section
variable {B K p pb : Nat} {g : Option Nat} {bs : List Nat} {lim : Nat} {w : World} {ov : Value} {s : Sta}
abbrev uv (_ : Unit) : Value := .tuple #[]
theorem grown_le {x : Nat × Nat} {t : Sta} {n : Nat} (h : grown bs (some x) s = .ok n t) (hx : x.2 ≤ 16) : x.1 ≤ n ∧ n < x.1 + 65536 := by
  obtain ⟨v, s', h1, h2⟩ := Res.bind_is h
  cases h2
  obtain ⟨_, h4, _⟩ := rdN_is h1
  have : v < 65536 := by
    rw [h4]
    exact Nat.lt_of_lt_of_le (pk_lt bs s.at_ x.2) (Nat.le_trans (Nat.pow_le_pow_right (by omega) hx) (by decide : 2 ^ 16 ≤ 65536))
  omega

theorem RTo.bad {α : Type} {enc : α → Value} {R : Res α} {er : Nat} {w' : World} (e : R = .bad er) (ht : Touch (FT p pb ov) w w') : RTo B K p pb g bs lim w ov enc R (pan er) w' := by
  subst e; exact ⟨rfl, ht⟩
theorem RTo.ok {α : Type} {enc : α → Value} {R : Res α} {a : α} {t : Sta} {w' : World} {ov' : Value} (e : R = .ok a t) (h : RS B K p pb g bs lim w' ov' t) (m : Mv p pb w ov w' ov') : RTo B K p pb g bs lim w ov enc R (.returned (enc a)) w' := by
  subst e; exact ⟨rfl, ov', h, m⟩

set_option maxHeartbeats 3200000 in
theorem again_any {pc : Nat} {ol : List Nat} (h : RS B K p pb g bs lim w ov s) (hc : CodeAt w pc ol) (y : Nat) :
    Calls Tryd.prog 79 #[.pointer (some ⟨p, 0, none⟩), .int .i64 y, .pointer (some ⟨pc, 0, none⟩)] w (RTo B K p pb g bs lim w ov uv (again bs lim ol y s)) := by
  obtain ⟨R, hR⟩ : ∃ R, R = again bs lim ol y s := ⟨_, rfl⟩
  rw [← hR]
  unfold again at hR
  have HL := Lib.hid fun W => Length_any y W
  cases hL : lenOf y with
  | none =>
    simp only [hL, tells] at HL
    rw [hL] at hR
    have HR := Lib.hid hR
    clear h hc hL hR
    go_enter Tryd.func79, Tryd.ntmps79
    go_wp2_with (first
      | (go_at_call 14; refine (HL.out _).mono ?_; rintro e w3 ⟨rfl, rfl⟩)
      | (go_at_call 89; refine (grown_none (p := p) (pb := pb) (ov := ov)).mono ?_; rintro e w3 ⟨rfl, ht⟩))
    exact ⟨rfl, RTo.bad HR.out ht⟩
  | some x =>
    have hx := lenOf_le hL
    simp only [hL, tells] at HL
    rw [hL] at hR
    have HR := Lib.hid hR
    clear hL hR
    go_enter Tryd.func79, Tryd.ntmps79
    go_wp2_with fail
    refine (HL.out _).mono ?_
    rintro e w0 ⟨rfl, rfl⟩
    go_wp2_with fail
    refine (grown_some h x (by omega) hx.2).mono ?_
    rintro e w1 h1
    cases hr1 : grown bs (some x) s with
    | bad er =>
      rw [hr1] at h1
      obtain ⟨rfl, ht⟩ := h1
      have hR := HR.out
      rw [hr1] at hR
      have HR1 := Lib.hid hR
      clear hr1 h hc hR
      go_wp2
      exact ⟨rfl, RTo.bad HR1.out ht⟩
    | ok n s1 =>
      rw [hr1] at h1
      obtain ⟨rfl, ov1, h1, m1⟩ := h1
      have hn : n ≤ 100000 := by have := grown_le hr1 hx.2; omega
      have hc1 := hc.safe m1.touch h.safe
      have hR := HR.out
      rw [hr1, Res.bind_ok] at hR
      have HR1 := Lib.hid hR
      clear hr1 hR HR
      go_wp2_with fail
      refine (symbol_any h1 hc1).mono ?_
      rintro e w2 h2
      cases hr2 : rdS bs ol s1 with
      | bad er =>
        rw [hr2] at h2
        obtain ⟨rfl, ht⟩ := h2
        have HT := Lib.hid (m1.bad ht)
        have hR := HR1.out
        rw [hr2] at hR
        have HR2 := Lib.hid hR
        clear hr2 h hc h1 hc1 m1 ht hR
        go_wp2
        exact ⟨rfl, RTo.bad HR2.out HT.out⟩
      | ok d s2 =>
        rw [hr2] at h2
        obtain ⟨rfl, ov2, h2, m2⟩ := h2
        have M2 := Lib.hid (m1.trans m2)
        have hR := HR1.out
        rw [hr2, Res.bind_ok] at hR
        clear hr2 m1 m2 h1 hc1 hc HR1
        have HD := Lib.hid fun W => Distance_any d W
        cases hD : disOf d with
        | none =>
          simp only [hD, tells] at HD
          rw [hD] at hR
          have HR := Lib.hid hR
          clear hD h h2 hR
          go_wp2_with (first
            | (go_at_call 16; refine (HD.out _).mono ?_; rintro e w3 ⟨rfl, rfl⟩)
            | (go_at_call 89; refine (grown_none (p := p) (pb := pb) (ov := ov2)).mono ?_; rintro e w3 ⟨rfl, ht⟩))
          exact ⟨rfl, RTo.bad HR.out (M2.out.bad ht)⟩
        | some z =>
          have hz := disOf_le hD
          simp only [hD, tells] at HD
          rw [hD] at hR
          have HR := Lib.hid hR
          clear hD hR
          go_wp2_with fail
          refine (HD.out _).mono ?_
          rintro e w02 ⟨rfl, rfl⟩
          go_wp2_with fail
          refine (grown_some h2 z (by omega) hz.2.2).mono ?_
          rintro e w3 h3
          cases hr3 : grown bs (some z) s2 with
          | bad er =>
            rw [hr3] at h3
            obtain ⟨rfl, ht⟩ := h3
            have hR := HR.out
            rw [hr3] at hR
            have HR1 := Lib.hid hR
            clear hr3 h h2 hR HR
            go_wp2
            exact ⟨rfl, RTo.bad HR1.out (M2.out.bad ht)⟩
          | ok far s3 =>
            rw [hr3] at h3
            obtain ⟨rfl, ov3, h3, m3⟩ := h3
            have hf := grown_le hr3 hz.2.2
            have M3 := Lib.hid (M2.out.trans m3)
            have hR := HR.out
            rw [hr3, Res.bind_ok] at hR
            clear hr3 m3 M2 h h2 HR
            have c1 := h3.cells.c1
            obtain ⟨ao, c, rfl⟩ := h3.slice
            have hout := h3.out
            have hlim := h3.lim_
            have H3 := Lib.hid h3
            obtain ⟨m, hm⟩ : ∃ m, m = s3.out.length := ⟨_, rfl⟩
            have HM := Lib.hid hm
            rw [← hm] at c1 hout H3 M3 hR
            clear h3 hm
            by_cases h4 : m < far
            · have d1 : decide (far ≤ m) = false := by simp; omega
              have d2 : decide ((far : Int) ≤ (m : Int)) = false := by simp; omega
              rw [if_pos h4] at hR
              have HR := Lib.hid hR
              clear h4 hR
              go_wp2_with (go_at_call 66; refine (must_no 10 _).mono ?_; rintro e w4 ⟨rfl, rfl⟩)
              exact ⟨rfl, RTo.bad HR.out M3.out.touch⟩
            · have d1 : decide (far ≤ m) = true := by simp; omega
              have d2 : decide ((far : Int) ≤ (m : Int)) = true := by simp; omega
              rw [if_neg h4] at hR
              have HR := Lib.hid hR
              clear hR
              go_wp2_with (go_at_call 66; refine (must_yes _ _).mono ?_; rintro e w4 ⟨rfl, rfl⟩)
              have hNR := needRoom_any H3.out n
              rw [← HM.out] at hNR
              refine hNR.mono ?_
              clear hNR
              rintro e w5 ⟨he, nq, rfl⟩
              by_cases h5 : lim < m + n
              · rw [if_neg (by simpa using h5)] at he
                subst he
                have hR := HR.out
                rw [if_pos h5] at hR
                have HR1 := Lib.hid hR
                clear h4 h5 hR HR
                go_wp2
                exact ⟨rfl, RTo.bad HR1.out (M3.out.trans (H3.out.drewN nq).2).touch⟩
              · rw [if_pos (by simpa using h5)] at he
                subst he
                have hR := HR.out
                rw [if_neg h5] at hR
                have HR1 := Lib.hid hR
                obtain ⟨h6, m6⟩ := H3.out.drewN nq
                have M6 := Lib.hid (M3.out.trans m6)
                have H6 := Lib.hid h6
                have hmn : m + n ≤ lim := by omega
                have hfm : far ≤ m := by omega
                have hf1 : 1 ≤ far := by omega
                clear h4 h5 hR HR c1 d1 d2 h6 m6 H3 M3 hf
                go_wp2
                go_loopw [36] (fun iv' wr => ∃ (j : Nat) (ov' : Value), j ≤ n ∧ iv' = .int .i64 j ∧ RS B K p pb g bs lim wr ov' { s3 with out := back far j s3.out } ∧ Mv p pb w ov wr ov') (fun iv' _ => n - (intOf iv').toNat)
                case atStart => exact ⟨0, _, Nat.zero_le _, rfl, H6.out, M6.out⟩
                case round =>
                  clear H6 M6
                  obtain ⟨j, ov4, hj, rfl, h7, m7⟩ := hrel
                  by_cases hlt : j < n
                  · obtain ⟨xs, hxs⟩ : ∃ xs, xs = back far j s3.out := ⟨_, rfl⟩
                    have hxl : xs.length = m + j := by rw [hxs, back_len, ← HM.out]
                    rw [← hxs] at h7
                    obtain ⟨k, hk⟩ : ∃ k, k = xs.length - far := ⟨_, rfl⟩
                    have hkl : k < xs.length := by omega
                    have hk1 : (k : Int) < xs.length := by omega
                    have e1 : IntKind.i64.wrap ((xs.length : Int) - (far : Int)) = (k : Int) := by rw [IntKind.wrap_i64]; omega
                    obtain ⟨b, c4, rfl, hc4, q0⟩ := h7.byte k hkl
                    obtain ⟨V, hV⟩ : ∃ V, V = xs.getD k 0 := ⟨_, rfl⟩
                    have hV256 : V < 256 := by rw [hV]; exact getD_bs h7.bytes k
                    have hnx : xs ++ [V] = back far (j + 1) s3.out := by rw [back_succ, ← hxs, hV, hk]
                    have hxb : xs.length ≤ 3000000 := by omega
                    have hj1 : (xs ++ [V]).length ≤ lim := by rw [List.length_append, List.length_singleton]; omega
                    have hbV := bs_snoc h7.bytes hV256
                    have p1 := h7.cells.c1
                    have hbo := (h7.own.lt b rfl).2
                    have hpl : p < wr.heap.size := by obtain ⟨fx, hb, _⟩ := h7.blk; exact hb.lt
                    have hB := h7.size
                    have H7 := Lib.hid h7
                    have HOWN := Lib.hid h7.own
                    have M7 := Lib.hid m7
                    have HNX := Lib.hid hnx
                    have q0' : wr.cell? ⟨b, k, none⟩ = some (.int .u8 (V : Nat)) := by rw [hV]; exact q0
                    clear q0 hV hxs hnx h7 m7 hk hxl
                    go_wp2
                    go_region_law (refine step_append_x rfl (.tmp 42) (.tmp 56) rfl B (.slice (some ⟨b, 0, none⟩) xs.length c4) (.slice (some ⟨wr.heap.size, 0, none⟩) 1 1) xs [V] (by simp [Act.eval]) (by simp [Act.eval]) (World.ownsRow.alloc (w := wr) HOWN.out _) (by_one wr V rfl) (by simp; omega) (by simp; omega) ?_; intro ao2 cc2 w4 hA; obtain ⟨r1, r2, r3, r4⟩ := H7.out.mid hA hj1 hbV; rw [List.length_append, List.length_singleton] at r3 r4; have R3 := Lib.hid r3; have R4 := Lib.hid r4; clear r3 r4 hA)
                    all_goals
                      go_wp2
                      go_roundw
                      case rel => exact ⟨j + 1, _, by omega, by go_num, by rw [← HNX.out]; exact R3.out, M7.out.trans R4.out⟩
                      case measure => simp [intOf]; omega
                  · have hj' : j = n := by omega
                    subst hj'
                    have H7 := Lib.hid h7
                    have M7 := Lib.hid m7
                    clear h7 m7
                    go_wp2
                    go_end0
                    exact RTo.ok HR1.out H7.out M7.out
end
end Go.Proofs.YtnnkegpnjedneaaDoor

/-
  symbols of inflate's reader.
-/
namespace Go.Proofs.YtnnkegpnjedneaaDoor
open Go.RowKit
set_option maxRecDepth 100000

section
variable {B K p pb : Nat} {g : Option Nat} {bs : List Nat} {lim : Nat} {w : World} {ov : Value} {s : Sta}

theorem syms_eq {fl ol : List Nat} (hs : s.at_ ≤ 8 * bs.length) : syms bs lim fl ol s = (rdS bs fl s).bind fun y s1 =>
    if y < 256 then (if lim < s1.out.length + 1 then .bad 14 else syms bs lim fl ol { s1 with steps := s1.steps + 1, out := s1.out ++ [y] })
    else if y = 256 then .ok () { s1 with steps := s1.steps + 1 }
    else (again bs lim ol y { s1 with steps := s1.steps + 1 }).bind fun _ s2 => syms bs lim fl ol s2 := by
  unfold syms
  rw [run_eq (sym1_takes fl ol) () hs]
  unfold sym1
  cases hr : rdS bs fl s with
  | bad e => rfl
  | ok y s1 =>
    simp only [Res.bind_ok]
    split
    · split
      · rfl
      · rfl
    · split
      · rfl
      · cases again bs lim ol y { s1 with steps := s1.steps + 1 } with
        | bad e => rfl
        | ok u s2 => rfl

/-- While symbols are read. -/
structure Sy (B K p pb : Nat) (g : Option Nat) (bs : List Nat) (lim : Nat) (w : World) (ov : Value) (q p1 p2 : Nat) (fl ol : List Nat) (R : Res Unit) (wr : World) (ov' : Value) (s' : Sta) : Prop where
  rs : RS B K p pb g bs lim wr ov' s'
  mv : Mv p pb w ov wr ov'
  run : syms bs lim fl ol s' = R
  box : Blk wr q 124 #[.pointer (some ⟨p1, 0, none⟩), .pointer (some ⟨p2, 0, none⟩)]
  c1 : CodeAt wr p1 fl
  c2 : CodeAt wr p2 ol
/-- Between. -/
structure Sx (B K p pb : Nat) (g : Option Nat) (bs : List Nat) (lim : Nat) (w : World) (ov : Value) (q p1 p2 : Nat) (fl ol : List Nat) (wr : World) (ov' : Value) (s' : Sta) : Prop where
  rs : RS B K p pb g bs lim wr ov' s'
  mv : Mv p pb w ov wr ov'
  box : Blk wr q 124 #[.pointer (some ⟨p1, 0, none⟩), .pointer (some ⟨p2, 0, none⟩)]
  c1 : CodeAt wr p1 fl
  c2 : CodeAt wr p2 ol
theorem Sx.on {q p1 p2 : Nat} {fl ol : List Nat} {wr w' : World} {ov' ov2 : Value} {s' s2 : Sta} (h : Sx B K p pb g bs lim w ov q p1 p2 fl ol wr ov' s') (k : RS B K p pb g bs lim w' ov2 s2) (m : Mv p pb wr ov' w' ov2) :
    Sx B K p pb g bs lim w ov q p1 p2 fl ol w' ov2 s2 :=
  ⟨k, h.mv.trans m, h.box.safe m.touch h.rs.safe (by decide), h.c1.safe m.touch h.rs.safe, h.c2.safe m.touch h.rs.safe⟩

theorem RS.mid0 {w1 : World} {ov' : Value} {xs : List Nat} {o : Obj} (h : RS B K p pb g bs lim w ov s) (hA : Apd (w.alloc o) B ov xs ov' w1) (hx : xs.length ≤ lim) (hb' : Bs xs) :
    w1.cell? ⟨p, 1, none⟩ = some ov ∧ w1.frozen? ⟨p, 1, none⟩ = false ∧ RS B K p pb g bs lim (w1.setCell ⟨p, 1, none⟩ ov') ov' { s with out := xs } ∧ Mv p pb w ov (w1.setCell ⟨p, 1, none⟩ ov') ov' := by
  obtain ⟨h1, k1⟩ := h.grow ((Below.refl _ w).alloc (Nat.le_refl _) o)
  obtain ⟨fx, hb, _⟩ := h1.blk
  have hb1 : Blk w1 p 67 (rc pb ov lim s fx) := hb.touch hA.touch fun e => ((h1.ne).2.1 _ e).1 rfl
  obtain ⟨h2, k2⟩ := h1.setOut hA hx hb'
  exact ⟨(hb1.cell 1).trans rfl, hb1.free 1, h2, k1.trans k2⟩

set_option maxHeartbeats 3200000 in
theorem symbols_any {p1 p2 : Nat} {fl ol : List Nat} (h : RS B K p pb g bs lim w ov s) (hc1 : CodeAt w p1 fl) (hc2 : CodeAt w p2 ol) :
    Calls Tryd.prog 68 #[.pointer (some ⟨p, 0, none⟩), .agg #[.pointer (some ⟨p1, 0, none⟩), .pointer (some ⟨p2, 0, none⟩)]] w (RTo B K p pb g bs lim w ov uv (syms bs lim fl ol s)) := by
  obtain ⟨R, hR⟩ : ∃ R, R = syms bs lim fl ol s := ⟨_, rfl⟩
  rw [← hR]
  have hw1 : Below w.heap.size w (w.alloc (.cells #[.pointer (some ⟨p1, 0, none⟩), .pointer (some ⟨p2, 0, none⟩)] 124)) := (Below.refl _ w).alloc (Nat.le_refl _) _
  obtain ⟨h1, m1⟩ := h.grow hw1
  have H1 : Hid (Sx B K p pb g bs lim w ov w.heap.size p1 p2 fl ol (w.alloc (.cells #[.pointer (some ⟨p1, 0, none⟩), .pointer (some ⟨p2, 0, none⟩)] 124)) ov s) :=
    Lib.hid ⟨h1, m1, Blk.made _ _ _, hc1.below hw1, hc2.below hw1⟩
  have HR0 := Lib.hid hR.symm
  obtain ⟨q, hq⟩ : ∃ q, q = w.heap.size := ⟨_, rfl⟩
  clear h hc1 hc2 hw1 h1 m1 hR
  go_enter Tryd.func68, Tryd.ntmps68
  go_wp2
  rw [← hq] at H1 ⊢
  clear hq
  go_loopg [] (8 * bs.length + 1) (fun gm wr => ∃ (ov' : Value) (s' : Sta), 8 * bs.length + 1 - s'.at_ ≤ gm ∧ Hid (syms bs lim fl ol s' = R) ∧ Sx B K p pb g bs lim w ov q p1 p2 fl ol wr ov' s')
  case atStart => exact ⟨ov, s, by omega, HR0, H1.out⟩
  case round =>
    clear H1 HR0
    obtain ⟨ov1, s1, hgm, HR, hx⟩ := hrel
    have HX := Lib.hid hx
    have hin := hx.rs.in_
    have b0 := (hx.box.cell 0).trans (show _ = some (.pointer (some ⟨p1, 0, none⟩)) from rfl)
    have hst := hx.rs.steps
    clear hx
    go_wp2_with fail
    refine (symbol_any HX.out.rs HX.out.c1).mono ?_
    rintro e w2 h2
    have hR := HR.out
    rw [syms_eq hin] at hR
    cases hr1 : rdS bs fl s1 with
    | bad er =>
      rw [hr1] at h2 hR
      obtain ⟨rfl, ht⟩ := h2
      have HR1 := Lib.hid hR.symm
      have HT := Lib.hid (HX.out.mv.bad ht)
      clear hr1 hR ht b0
      go_wp2
      exact ⟨rfl, RTo.bad HR1.out HT.out⟩
    | ok y s2 =>
      rw [hr1] at h2 hR
      obtain ⟨rfl, ov2, h2, m2⟩ := h2
      obtain ⟨_, k1, k2, k3⟩ := rdS_is hr1
      have hs2 : s2.steps + 1 ≤ s2.at_ := by rw [k3]; show s1.steps + 1 ≤ s1.at_ + ln fl y; omega
      have hat : s1.at_ < s2.at_ := by rw [k3]; show s1.at_ < s1.at_ + ln fl y; omega
      have X2 := HX.out.on h2 m2
      have c3 := h2.cells.c3
      have f3 := h2.cells.f3
      obtain ⟨h3, m3⟩ := h2.setSteps (s2.steps + 1) hs2 (x := (s2.steps : Int) + 1) (by simp)
      have X3 := Lib.hid (X2.on h3 m3)
      have hi2 := h2.in_
      have hy : y < 320 := by
        have := ln_lt (ls := fl) (s := y) (by omega)
        have := X2.c1.ok.len
        omega
      have hstb := h2.steps
      have hlb := h2.len
      clear k3 k1 k2 hr1 h3 m3 h2 m2 X2 b0 HX hst
      rw [Res.bind_ok] at hR
      by_cases hy1 : y < 256
      · rw [if_pos hy1] at hR
        have HR1 := Lib.hid hR
        have hy2 : (y : Int) < 256 := by omega
        clear hR HR
        go_wp2_with fail
        have c1 := X3.out.rs.cells.c1
        refine (needRoom_any X3.out.rs 1).mono ?_
        rintro e w4 ⟨he, nq, rfl⟩
        have hR := HR1.out
        by_cases h5 : lim < s2.out.length + 1
        · rw [if_neg (by simpa using h5)] at he
          subst he
          rw [if_pos h5] at hR
          have HR2 := Lib.hid hR.symm
          clear hR h5 c1 c3 f3
          go_wp2
          exact ⟨rfl, RTo.bad HR2.out (X3.out.mv.trans (X3.out.rs.drewN nq).2).touch⟩
        · rw [if_pos (by simpa using h5)] at he
          subst he
          rw [if_neg h5] at hR
          have HR2 := Lib.hid hR
          obtain ⟨h4, m4⟩ := X3.out.rs.drewN nq
          have X4 := Lib.hid (X3.out.on h4 m4)
          obtain ⟨W, hW⟩ : ∃ W, W = (w2.setCell ⟨p, 3, none⟩ (.int .i64 ((s2.steps : Int) + 1))).drewN nq := ⟨_, rfl⟩
          rw [← hW] at X4 ⊢
          obtain ⟨ao, c, rfl⟩ := X4.out.rs.slice
          have c1 := X4.out.rs.cells.c1
          obtain ⟨xs, hxs⟩ : ∃ xs, xs = s2.out := ⟨_, rfl⟩
          have hxb : xs.length ≤ 3000000 := by rw [hxs]; have := X4.out.rs.out; have := X4.out.rs.lim_; simp at *; omega
          have hj1 : (xs ++ [y]).length ≤ lim := by rw [List.length_append, List.length_singleton, hxs]; omega
          have hbV : Bs (xs ++ [y]) := by rw [hxs]; exact bs_snoc X4.out.rs.bytes hy1
          have HOWN : Hid (W.ownsRow B 5 1 (.slice ao xs.length c) xs.length (u8s xs)) := Lib.hid (by rw [hxs]; exact X4.out.rs.own)
          have c1' : W.cell? ⟨p, 1, none⟩ = some (.slice ao xs.length c) := by rw [hxs]; exact c1
          have hB := X4.out.rs.size
          have e8 : IntKind.u8.wrap (y : Int) = y := by rw [IntKind.wrap_u8']; omega
          have HXS := Lib.hid hxs
          clear h5 h4 m4 X3 c1 c3 f3 hW hR hxs HR1
          go_wp2_with (refine wpList_append_x rfl (.tmp 30) (.tmp 33) rfl B (.slice ao xs.length c) (.slice (some ⟨W.heap.size, 0, none⟩) 1 1) xs [y] rfl rfl (World.ownsRow.alloc (w := W) HOWN.out _) (by_one W y rfl) (by simp; omega) (by simp; omega) ?_; intro ao2 cc2 w5 hA; obtain ⟨r1, r2, r3, r4⟩ := X4.out.rs.mid0 (by rw [← HXS.out]; exact hA) hj1 hbV; rw [List.length_append, List.length_singleton] at r3 r4; rw [← HXS.out] at r1; have R3 := Lib.hid r3; have R4 := Lib.hid r4; clear r3 r4 hA)
          go_roundg (8 * bs.length + 1 - s2.at_)
          case measure => omega
          case rel =>
            refine ⟨_, { s2 with steps := s2.steps + 1, out := xs ++ [y] }, Nat.le_refl _, ?_, X4.out.on R3.out R4.out⟩
            have := HR2.out
            rw [HXS.out]
            exact Lib.hid this
      · rw [if_neg hy1] at hR
        by_cases hy2 : y = 256
        · subst hy2
          rw [if_pos rfl] at hR
          have HR1 := Lib.hid hR.symm
          clear hR HR hy1
          go_wp2
          refine bodyPost_ret (results_none rfl _ _ _) rfl ?_
          exact RTo.ok HR1.out X3.out.rs X3.out.mv
        · rw [if_neg hy2] at hR
          have HR1 := Lib.hid hR
          have d1 : ¬ (y : Int) < 256 := by omega
          have d2 : ((y : Int) == 256) = false := by simp; omega
          have b1 := (X3.out.box.cell 1).trans (show _ = some (.pointer (some ⟨p2, 0, none⟩)) from rfl)
          clear hR HR hy1 hy2
          go_wp2_with fail
          refine (again_any X3.out.rs X3.out.c2 y).mono ?_
          rintro e w4 h4
          have hR := HR1.out
          cases hr2 : again bs lim ol y { s2 with steps := s2.steps + 1 } with
          | bad er =>
            rw [hr2] at h4 hR
            obtain ⟨rfl, ht⟩ := h4
            have HR2 := Lib.hid hR.symm
            have HT := Lib.hid (X3.out.mv.bad ht)
            clear hr2 hR ht b1 c3 f3
            go_wp2
            exact ⟨rfl, RTo.bad HR2.out HT.out⟩
          | ok u s4 =>
            rw [hr2] at h4 hR
            obtain ⟨rfl, ov4, h4, m4⟩ := h4
            have HR2 := Lib.hid hR
            have hle := (again_pr (lim := lim) ol y { s2 with steps := s2.steps + 1 } _ _ hi2 hr2).at_
            have hle' : s2.at_ ≤ s4.at_ := hle
            have X4 := Lib.hid (X3.out.on h4 m4)
            clear hr2 hR b1 c3 f3 h4 m4 hle
            go_wp2
            go_roundg (8 * bs.length + 1 - s4.at_)
            case measure => omega
            case rel => exact ⟨_, _, Nat.le_refl _, HR2, X4.out⟩
end
end Go.Proofs.YtnnkegpnjedneaaDoor

/-
  storedBytes of inflate's reader.
-/
namespace Go.Proofs.YtnnkegpnjedneaaDoor
open Go.RowKit
set_option maxRecDepth 100000

theorem turned (n : Nat) (h : n < 65536) : n ^^^ 65535 = 65535 - n := by
  rw [show 65535 - n = 2 ^ 16 - (n + 1) by omega]
  apply Nat.eq_of_testBit_eq
  intro i
  rw [Nat.testBit_xor, Nat.testBit_two_pow_sub_succ (by omega), show (65535 : Nat) = 2 ^ 16 - 1 by decide, Nat.testBit_two_pow_sub_one]
  by_cases hi : i < 16
  · simp [hi]
  · have : n.testBit i = false := Nat.testBit_lt_two_pow (Nat.lt_of_lt_of_le (show n < 2 ^ 16 by omega) (Nat.pow_le_pow_right (by omega) (by omega)))
    simp [hi, this]
theorem xor_ones (n : Nat) (h : n < 65536) : bits BinOp.xor IntKind.i64 (n : Int) 65535 = ((65535 - n : Nat) : Int) := by
  rw [← turned n h]
  have h1 : n ^^^ 65535 < 65536 := Nat.xor_lt_two_pow (n := 16) h (by decide)
  have e : (65535 : Int) = ((65535 : Nat) : Int) := rfl
  rw [e]
  have a' : n % 2 ^ IntKind.i64.bits = n := Nat.mod_eq_of_lt (Nat.lt_of_lt_of_le h (by decide))
  have b' : 65535 % 2 ^ IntKind.i64.bits = 65535 := by decide
  simp only [bits, BitVec.ofInt_natCast, BitVec.toNat_xor, BitVec.toNat_ofNat, a', b']
  rw [IntKind.wrap_i64]
  omega

section
variable {B K p pb : Nat} {g : Option Nat} {bs : List Nat} {lim : Nat} {w : World} {ov : Value} {s : Sta}
theorem rdN_lt {n : Nat} {t : Sta} {v : Nat} (h : rdN bs n s = .ok v t) : v < 2 ^ n := by
  obtain ⟨_, h4, _⟩ := rdN_is h
  rw [h4]
  exact pk_lt bs s.at_ n

theorem RS.mid1 {w1 : World} {ov' : Value} {xs : List Nat} (h : RS B K p pb g bs lim w ov s) (hA : Apd w B ov xs ov' w1) (hx : xs.length ≤ lim) (hb' : Bs xs) :
    w1.cell? ⟨p, 1, none⟩ = some ov ∧ w1.frozen? ⟨p, 1, none⟩ = false ∧ RS B K p pb g bs lim (w1.setCell ⟨p, 1, none⟩ ov') ov' { s with out := xs } ∧ Mv p pb w ov (w1.setCell ⟨p, 1, none⟩ ov') ov' := by
  obtain ⟨fx, hb, _⟩ := h.blk
  have hb1 : Blk w1 p 67 (rc pb ov lim s fx) := hb.touch hA.touch fun e => ((h.ne).2.1 _ e).1 rfl
  obtain ⟨h2, k2⟩ := h.setOut hA hx hb'
  exact ⟨(hb1.cell 1).trans rfl, hb1.free 1, h2, k2⟩

set_option maxHeartbeats 3200000 in
theorem stored_any (h : RS B K p pb g bs lim w ov s) :
    Calls Tryd.prog 67 #[.pointer (some ⟨p, 0, none⟩)] w (RTo B K p pb g bs lim w ov uv (stored bs lim s)) := by
  obtain ⟨R, hR⟩ : ∃ R, R = stored bs lim s := ⟨_, rfl⟩
  rw [← hR]
  unfold stored at hR
  have HR := Lib.hid hR
  have hin := h.in_
  have hlen := h.len
  have c0 := h.cells.c0
  have HA := Lib.hid (h.ob.ralign (by omega))
  have HM := Lib.hid fun w' (k : Moved w B 96 pb g bs (up8 s.at_) w') => h.moved k (up8_le _) (up8_end hin)
  clear hR h
  go_enter Tryd.func67, Tryd.ntmps67
  go_wp2_with fail
  refine HA.out.mono ?_
  rintro e w0 ⟨rfl, hm⟩
  obtain ⟨h0, m0⟩ := HM.out w0 hm
  clear c0 HA HM hm
  go_wp2_with fail
  refine (number_any h0 16 (by omega)).mono ?_
  rintro e w1 h1
  have hR := HR.out
  cases hr1 : rdN bs 16 { s with at_ := up8 s.at_ } with
  | bad er =>
    rw [hr1] at h1 hR
    obtain ⟨rfl, ht⟩ := h1
    have HR1 := Lib.hid hR
    clear hr1 hR h0
    go_wp2
    exact ⟨rfl, RTo.bad HR1.out (m0.bad ht)⟩
  | ok n s1 =>
    rw [hr1, Res.bind_ok] at hR
    rw [hr1] at h1
    obtain ⟨rfl, ov1, h1, m1⟩ := h1
    have hn := rdN_lt hr1
    have hn6 : n < 65536 := hn
    have q1 := (rdN_is hr1).2.2
    have M1 := Lib.hid (m0.trans m1)
    have HR1 := Lib.hid hR
    clear hr1 hR h0 m0 m1 hn HR
    go_wp2_with fail
    refine (number_any h1 16 (by omega)).mono ?_
    rintro e w2 h2
    have hR := HR1.out
    cases hr2 : rdN bs 16 s1 with
    | bad er =>
      rw [hr2] at h2 hR
      obtain ⟨rfl, ht⟩ := h2
      have HR2 := Lib.hid hR
      clear hr2 hR h1 q1
      go_wp2
      exact ⟨rfl, RTo.bad HR2.out (M1.out.bad ht)⟩
    | ok m s2 =>
      rw [hr2, Res.bind_ok] at hR
      rw [hr2] at h2
      obtain ⟨rfl, ov2, h2, m2⟩ := h2
      have hm6 : m < 65536 := rdN_lt hr2
      have q2 := (rdN_is hr2).2.2
      have hal : s2.at_ % 8 = 0 := by rw [q2, q1]; show (up8 s.at_ + 16 + 16) % 8 = 0; unfold up8; omega
      have M2 := Lib.hid (M1.out.trans m2)
      clear hr2 h1 m2 q1 q2 HR1 M1
      have hx := xor_ones n hn6
      obtain ⟨z, hz⟩ : ∃ z, z = 65535 - n := ⟨_, rfl⟩
      rw [← hz] at hx hR
      by_cases h4 : m ≠ z
      · rw [if_pos h4] at hR
        have HR2 := Lib.hid hR
        have d1 : ((m : Int) == (z : Int)) = false := by simp; omega
        clear hR h4 hz h2 hal
        go_wp2_with (go_at_call 66; refine (must_no 10 _).mono ?_; rintro e w4 ⟨rfl, rfl⟩)
        exact ⟨rfl, RTo.bad HR2.out M2.out.touch⟩
      · rw [if_neg h4] at hR
        have d1 : ((m : Int) == (z : Int)) = true := by simp; omega
        have HR2 := Lib.hid hR
        have c0 := h2.cells.c0
        have H2 := Lib.hid h2
        have hin2 := h2.in_
        have hlen2 := h2.len
        clear h4 hz hR h2
        by_cases h5 : 8 * bs.length < s2.at_ + 8 * n
        · have hR := HR2.out
          rw [if_pos h5] at hR
          have HR3 := Lib.hid hR
          have HB := Lib.hid (H2.out.ob.bytes_no (by omega) hin2 n (by omega))
          clear hR h5 HR2
          go_wp2_with (first
            | (go_at_call 66; (with_reducible refine (must_yes _ _).mono ?_); rintro e w4 ⟨rfl, rfl⟩)
            | (go_at_call 76; (refine HB.out.mono ?_); rintro e w4 ⟨rfl, rfl⟩)
            | (go_at_call 66; refine (must_no 15 _).mono ?_; rintro e w4 ⟨rfl, rfl⟩))
          exact ⟨rfl, RTo.bad HR3.out M2.out.touch⟩
        · have hR := HR2.out
          rw [if_neg h5] at hR
          have HR3 := Lib.hid hR
          have HB := Lib.hid (H2.out.ob.bytes_yes (by omega) hin2 n (by omega))
          have hf : (s2.at_ + 7) / 8 = s2.at_ / 8 := by omega
          rw [hf] at HB
          have hq : (s2.at_ / 8 + n) * 8 = s2.at_ + 8 * n := by omega
          rw [hq] at HB
          clear hR HR2 hf hq
          go_wp2_with (go_at_call 66; (with_reducible refine (must_yes _ _).mono ?_); rintro e w4 ⟨rfl, rfl⟩)
          refine HB.out.mono ?_
          rintro e w4 ⟨a, c, rfl, hown, hlow, ho, ht⟩
          obtain ⟨h4, m4⟩ := H2.out.moved ⟨ho, ht⟩ (by omega) (by omega)
          have M4 := Lib.hid (M2.out.trans m4)
          obtain ⟨xs, hxs⟩ : ∃ xs, xs = (bs.drop (s2.at_ / 8)).take n := ⟨_, rfl⟩
          have hxl : xs.length = n := by rw [hxs, List.length_take, List.length_drop]; omega
          have hxb : Bs xs := by rw [hxs]; exact cut_bs H2.out.ob.hb _ _
          rw [← hxs] at hown ⊢
          have HOWN := Lib.hid hown
          have hR := HR3.out
          rw [← hxs] at hR
          have HXL := Lib.hid hxl
          have HR5 := Lib.hid hR
          clear hown hlow ho ht m4 HB c0 M2 hxs hxl HR3 hR
          go_wp2_with (go_at_call 66; (with_reducible refine (must_yes _ _).mono ?_); rintro e w5 ⟨rfl, rfl⟩)
          refine (needRoom_any h4 n).mono ?_
          rintro e w5 ⟨he, nq, rfl⟩
          have hR := HR5.out
          by_cases h6 : lim < s2.out.length + n
          · rw [if_neg (by simpa using h6)] at he
            subst he
            rw [if_pos h6] at hR
            have HR4 := Lib.hid hR
            clear hR h6
            go_wp2
            exact ⟨rfl, RTo.bad HR4.out (M4.out.trans (h4.drewN nq).2).touch⟩
          · rw [if_pos (by simpa using h6)] at he
            subst he
            rw [if_neg h6] at hR
            have HR4 := Lib.hid hR
            obtain ⟨h7, m7⟩ := h4.drewN nq
            have M7 := Lib.hid (M4.out.trans m7)
            have HSR : Hid (BySl (w4.drewN nq) (.slice a xs.length c) xs) := Lib.hid ((BySl.own HOWN.out).touch ((Touch.refl (fun _ => False) w4).drewN nq) (fun _ _ h => h))
            obtain ⟨W, hW⟩ : ∃ W, W = w4.drewN nq := ⟨_, rfl⟩
            rw [← hW] at h7 M7 HSR ⊢
            obtain ⟨ao, c1, rfl⟩ := h7.slice
            obtain ⟨l, hl⟩ : ∃ l, l = s2.out := ⟨_, rfl⟩
            have h6' : l.length + xs.length ≤ lim := by rw [hl, HXL.out]; omega
            have hlim := h7.lim_
            have p1 := h7.cells.c1
            have HO7 : Hid (W.ownsRow B 5 1 (.slice ao l.length c1) l.length (u8s l)) := Lib.hid (by rw [hl]; exact h7.own)
            have hB := h7.size
            have hbb : Bs (l ++ xs) := fun x hx => by
              rcases List.mem_append.1 hx with hx | hx
              · rw [hl] at hx; exact h7.bytes x hx
              · exact hxb x hx
            have h6'' : (l ++ xs).length ≤ lim := by rw [List.length_append]; exact h6'
            have HL := Lib.hid hl
            have p1' : W.cell? ⟨p, 1, none⟩ = some (.slice ao l.length c1) := by rw [hl]; exact p1
            have hst : s2.steps ≤ 800000 := by have := h7.steps; have := h7.in_; simp at *; omega
            have hst2 : s2.steps + n ≤ s2.at_ + 8 * n := by have := H2.out.steps; omega
            have H7 := Lib.hid h7
            clear hR h6 h7 m7 h4 hW hl p1 M4 HR5 H2 HOWN
            go_wp2_with (refine wpList_append_x rfl (.tmp 38) (.tmp 39) rfl B (.slice ao l.length c1) (.slice a xs.length c) l xs rfl rfl HO7.out HSR.out (by omega) (by omega) ?_; intro ao2 cc2 w5 hA; obtain ⟨r1, r2, r3, r4⟩ := H7.out.mid1 (by rw [← HL.out]; exact hA) h6'' hbb; rw [← HL.out] at r1; rw [List.length_append] at r3 r4; have r5 := r3.cells.c3; have r6 := r3.cells.f3; have R3 := Lib.hid r3; have R4 := Lib.hid r4; clear r3 r4 hA)
            go_end0
            obtain ⟨h8, m8⟩ := R3.out.setSteps (s2.steps + n) hst2 (x := (s2.steps : Int) + n) (by simp)
            refine RTo.ok (a := ()) ?_ h8 ((M7.out.trans R4.out).trans m8)
            rw [HR4.out, HL.out]
end
end Go.Proofs.YtnnkegpnjedneaaDoor

/-
  Mul at 1, Repeat of one number, Grow of nothing, Concat, Fixed.
-/
namespace Go.Proofs.YtnnkegpnjedneaaDoor
open Go.RowKit
set_option maxRecDepth 100000

theorem mul64_one (n : Nat) (w : World) (hn : n ≤ 1000) :
    Calls Tryd.prog 64 #[.int .u64 1, .int .u64 n] w fun e w' => e = .returned (.tuple #[.int .u64 0, .int .u64 n]) ∧ w = w' := by
  have e1 : bits BinOp.and IntKind.u64 1 4294967295 = 1 := by decide
  have e2 : bits BinOp.and IntKind.u64 (n : Int) 4294967295 = n := by
    have h := bits_and_u64_nat n 4294967295 (by omega) (by decide)
    have e : n &&& 4294967295 = n := by
      rw [show (4294967295 : Nat) = 2 ^ 32 - 1 by decide, Nat.and_two_pow_sub_one_eq_mod]
      exact Nat.mod_eq_of_lt (by omega)
    rw [e] at h
    exact h
  have e3 : bits BinOp.and IntKind.u64 0 4294967295 = 0 := by decide
  have e4 : (n : Int) / 4294967296 = 0 := by omega
  go_enter Tryd.func64, Tryd.ntmps64
  go_wp2
  go_ret2
  exact ⟨rfl, rfl⟩
theorem mul_one' (n : Nat) (w : World) (hn : n ≤ 1000) :
    Calls Tryd.prog 50 #[.int .u64 1, .int .u64 n] w fun e w' => e = .returned (.tuple #[.int .u64 0, .int .u64 n]) ∧ w = w' := by
  go_enter Tryd.func50, Tryd.ntmps50
  go_wp2_with (go_at_call 64; (refine (mul64_one n _ hn).mono ?_); rintro e w2 ⟨rfl, rfl⟩)
  go_ret2
  exact ⟨rfl, rfl⟩

/-- So many cells of a row hold x. -/
def fill (n x i : Nat) : List Value := (List.range n).map fun j => .int .i64 ((if j < i then x else 0 : Nat) : Int)
theorem fill_len (n x i : Nat) : (fill n x i).length = n := by simp [fill]
theorem fill_at (n x i j : Nat) (h : j < n) : (fill n x i)[j]? = some (.int .i64 ((if j < i then x else 0 : Nat) : Int)) := by simp [fill, h]
theorem fill_splice (n x i m : Nat) (h : i + m ≤ n) : splice (fill n x i) i (List.replicate m (.int .i64 (x : Nat))) = fill n x (i + m) := by
  have hl : (splice (fill n x i) i (List.replicate m (.int .i64 (x : Nat)))).length = n := by rw [length_splice _ _ _ (by simp [fill_len]; omega), fill_len]
  apply List.ext_getElem?
  intro j
  rcases Nat.lt_or_ge j n with hj | hj
  · rw [fill_at _ _ _ _ hj]
    unfold splice
    rw [List.getElem?_append]
    have ht : (List.take i (fill n x i)).length = i := by rw [List.length_take, fill_len]; omega
    rw [ht]
    split
    · rename_i h1
      rw [List.getElem?_take_of_lt h1, fill_at _ _ _ _ hj, if_pos h1, if_pos (by omega)]
    · rename_i h1
      rw [List.getElem?_append, List.length_replicate]
      split
      · rename_i h2
        rw [List.getElem?_replicate, if_pos h2, if_pos (by omega)]
      · rename_i h2
        rw [List.getElem?_drop, show i + m + (j - i - m) = j by omega, fill_at _ _ _ _ hj, if_neg (by omega), if_neg (by omega)]
  · rw [List.getElem?_eq_none (by omega), List.getElem?_eq_none (by rw [fill_len]; exact hj)]
theorem fill_one (n x i : Nat) : ∀ v ∈ fill n x i, v.oneCell' = true := by
  intro v hv
  simp [fill] at hv
  obtain ⟨j, _, rfl⟩ := hv
  rfl
theorem fill_zero (n x : Nat) : va (n * 1) (fun i => (Value.int .i64 0).cells[i % (Value.int .i64 0).cells.size]!) = (fill n x 0).toArray := by
  rw [Nat.mul_one]
  unfold va fill
  congr 1
  apply List.map_congr_left
  intro j _
  simp [Value.cells, Nat.mod_one]

set_option maxHeartbeats 1600000 in
theorem repeat_any (b x n : Nat) (w : World) (h1 : 1 ≤ n) (hn : n ≤ 1000) (hc : w.cell? ⟨b, 0, none⟩ = some (.int .i64 (x : Nat))) :
    Calls Tryd.prog 30 #[.slice (some ⟨b, 0, none⟩) 1 1, .int .i64 n] w fun e w' => e = .returned (.slice (some ⟨w.heap.size, 0, none⟩) n n) ∧ Blk w' w.heap.size 3 (fill n x n).toArray ∧ Below w.heap.size w w' := by
  have HC := Lib.hid hc
  have hbl : b < w.heap.size := World.block_lt_of_cell? w _ hc
  obtain ⟨g, hg⟩ : ∃ g, g = w.heap.size := ⟨_, rfl⟩
  rw [← hg] at hbl ⊢
  have HG := Lib.hid hg
  clear hc hg
  go_enter Tryd.func30, Tryd.ntmps30
  go_wp2_with (first
    | (go_at_call 50; (refine (mul_one' n _ hn).mono ?_); rintro e w2 ⟨rfl, rfl⟩)
    | (refine wpList_make_z rfl 29 (.tmp 29) (.tmp 29) rfl 3 (.int .i64 0) 1 8 n Tryd.underlying29 (by kernel_rfl) .i64 .i64 _ _ rfl rfl rfl rfl (by omega) (by omega) ?_; intro W hb1 ht1 hs1; rw [fill_zero n x] at hb1; rw [← HG.out] at hb1 ⊢; have HB := Lib.hid hb1; have HT := Lib.hid ht1; have HS := Lib.hid hs1; clear hb1 ht1 hs1)
    | (refine wpList_copy_splice rfl (.tmp 31) (.tmp 32) 29 29 rfl 3 Tryd.underlying29 (by kernel_rfl) (some ⟨g, 0, none⟩) (some ⟨b, 0, none⟩) n n 1 1 rfl rfl g 0 (fill n x 0) 3 HB.out (List.replicate 1 (.int .i64 (x : Nat))) (by rw [List.length_replicate]; exact (Nat.min_eq_left h1).symm) (fun _ => ⟨rfl, ⟨b, 0, none⟩, rfl, fun j v hv => by
        have hj : j = 0 := by have := (List.getElem?_eq_some_iff.1 hv).1; simp at this; exact this
        subst hj
        simp at hv
        subst hv
        rw [Addr.add_lit]
        exact ((Below.cell (HT.out.below (B := w.heap.size) (Nat.le_refl _) fun _ h => h.elim) (p := ⟨b, 0, none⟩) (by rw [← HG.out]; exact hbl))).trans HC.out⟩) (by simp [fill_len]; omega) (by simp [Value.oneCell']) g w (HT.out.below (by rw [HG.out]; exact Nat.le_refl _) fun _ h => h.elim) (Nat.le_refl _) ?_; intro W2 hb2 hl2; have HB2 := Lib.hid (hb2.out); have HL2 := Lib.hid hl2; clear hb2 hl2))
  have H1 : Hid (Blk W2 g 3 (fill n x 1).toArray) := Lib.hid (by have h := HB2.out; rw [fill_splice n x 0 1 (by omega)] at h; exact h)
  clear HB2 HB HT HS HC
  go_loopw [8] (fun iv' wr => ∃ i : Nat, 1 ≤ i ∧ i ≤ n ∧ iv' = .int .i64 i ∧ Blk wr g 3 (fill n x i).toArray ∧ Below g w wr) (fun iv' _ => n - (intOf iv').toNat)
  case atStart => exact ⟨1, Nat.le_refl _, h1, by simp, H1.out, HL2.out⟩
  case round =>
    clear H1 HL2
    obtain ⟨i, hi1, hi, rfl, hb3, hl3⟩ := hrel
    have HB3 := Lib.hid hb3
    have HL3 := Lib.hid hl3
    clear hb3 hl3
    by_cases hlt : i < n
    · obtain ⟨m, hm⟩ : ∃ m, m = Nat.min i (n - i) := ⟨_, rfl⟩
      have hm1 : 1 ≤ m := by rw [hm]; exact Nat.le_min.2 ⟨hi1, by omega⟩
      have hm2 : i + m ≤ n := by have : m ≤ n - i := by rw [hm]; exact Nat.min_le_right _ _
                                 omega
      have hm3 : m ≤ i := by rw [hm]; exact Nat.min_le_left _ _
      have HM := Lib.hid hm
      clear hm
      have hin : (i : Int) < n := by omega
      have hne : ¬ (n = i) := by omega
      have HW : Hid (IntKind.i64.wrap ((i : Int) + (m : Int)) = ((i + m : Nat) : Int)) := Lib.hid (by rw [IntKind.wrap_i64]; omega)
      have HP : Hid (∀ j v, (List.replicate m (Value.int .i64 (x : Nat)))[j]? = some v → wr.drew.cell? ((⟨g, 0, none⟩ : Addr).add j) = some v) := Lib.hid fun j v hv => by
        have hj : j < m := by have := (List.getElem?_eq_some_iff.1 hv).1; simpa using this
        rw [List.getElem?_replicate, if_pos hj] at hv
        rw [Addr.add_lit, Nat.zero_add]
        refine (HB3.out.cell j).trans ?_
        rw [List.getElem?_toArray, fill_at _ _ _ _ (by omega), if_pos (by omega)]
        exact hv
      go_wp2
      go_region_law (refine step_copy_splice rfl (.tmp 41) (.tmp 44) 29 29 rfl 3 Tryd.underlying29 (by kernel_rfl) (some ⟨g, i, none⟩) (some ⟨g, 0, none⟩) (n - i) (n - i) i n (by simp [Act.eval, Act.put]) (by simp [Act.eval, Act.put]) g i (fill n x i) 3 HB3.out (List.replicate m (.int .i64 (x : Nat))) (by rw [List.length_replicate]; exact HM.out) (fun _ => ⟨rfl, ⟨g, 0, none⟩, rfl, HP.out⟩) (by simp [fill_len]; omega) (by simp [Value.oneCell']) g w (below_drew HL3.out) (Nat.le_refl _) ?_; intro W4 hb4 hl4; have h4 := hb4.out; rw [fill_splice n x i m (by omega)] at h4; have HB4 : Hid (Blk W4 g 3 (fill n x (i + m)).toArray) := Lib.hid h4; have HL4 := Lib.hid hl4; clear hb4 hl4 h4)
      all_goals
        go_wp2
        go_roundw
        case rel =>
          repeat apply Exists.intro
          refine ⟨?_, rfl⟩
          exact ⟨i + m, by omega, by omega, congrArg (Value.int .i64) HW.out, HB4.out, HL4.out⟩
        case measure => simp [intOf, Act.put, HW.out]; omega
    · have hj' : i = n := by omega
      subst hj'
      have hii : ¬ ((i : Int) < i) := by omega
      go_wp2
      go_ret
      exact ⟨rfl, HB3.out, HL3.out⟩
end Go.Proofs.YtnnkegpnjedneaaDoor

/-
  Grow of nothing, Concat of four rows, Fixed.
-/
namespace Go.Proofs.YtnnkegpnjedneaaDoor
open Go.RowKit
set_option maxRecDepth 100000

theorem grow_none (n : Nat) (w : World) (h1 : 1 ≤ n) (hn : n ≤ 1000) :
    Calls Tryd.prog 49 #[.slice none 0 0, .int .i64 n] w fun e w' => ∃ c, e = .returned (.slice (some ⟨w.heap.size, 0, none⟩) 0 c) ∧ w'.ownsRow w.heap.size 3 1 (.slice (some ⟨w.heap.size, 0, none⟩) 0 c) 0 [] ∧ Below w.heap.size w w' := by
  obtain ⟨i, hi, hz0, hz1, hz2⟩ := info_parts (P := Tryd.prog) (e := 3) (z := .int .i64 0) (size := 1) (bytes := 8) (by kernel_rfl)
  have hold : (Builtin.firstCells i.size 0 (.slice none 0 0)).run Tryd.prog w.drew = .ok ([] : List Value).toArray w.drew := run_firstCells_none w.drew i.size 0 0 0
  have hns : Builtin.nextslicecap (0 + n) 0 = n := by unfold Builtin.nextslicecap; rw [if_pos (by omega)]; omega
  have hrz : ∀ ty, (Builtin.append_ #[29, 3] ty #[.slice none 0 0, .int .i64 (n : Nat)]).run Tryd.prog w =
      .ok (.slice (some ⟨w.heap.size, 0, none⟩) n (grownCap w n 0 3)) (w.drew.alloc (.cells (([] : List Value).toArray ++ Builtin.zeroCells (Value.int .i64 0).cells n ++ Builtin.zeroCells (Value.int .i64 0).cells (grownCap w n 0 3 - n)) 3)) := fun ty => by
    have h := Lib.run_append_grow_zeros w 29 3 ty 3 i (.int .i64 0) .i64 .i64 Tryd.underlying29 Tryd.underlying3 hi hz0 none 0 0 [] hold n (by omega) (by omega) (by omega) (by omega) (by rw [hz2]; omega) (by rw [hns, hz2]; omega)
    rw [Nat.zero_add] at h
    exact h
  have hGn : n ≤ grownCap w n 0 3 := grownCap_ge w _ _ _
  have hGm : grownCap w n 0 3 ≤ maxLen := grownCap_le_maxLen w n 0 3 (by unfold maxLen; omega)
  obtain ⟨G, hG⟩ : ∃ G, G = grownCap w n 0 3 := ⟨_, rfl⟩
  rw [← hG] at hrz hGn hGm
  have hG63 : G ≤ 9223372036854775807 := by unfold maxLen at hGm; omega
  have HRZ := Lib.hid hrz
  have HM := Lib.hid hGm
  clear hold hG hi hz0 hz1 hz2 hns hrz hGm
  go_enter Tryd.func49, Tryd.ntmps49
  go_wp2_with (at_builtin; refine Lib.wpList_append_run _ rfl _ _ _ _ rfl _ _ rfl rfl _ _ (HRZ.out _) ?_)
  go_ret
  refine ⟨G, rfl, ⟨rfl, .inr ⟨w.heap.size, G, _, rfl, Nat.le_refl _, Blk.made w.drew 3 _, Nat.zero_le _, HM.out, ?_, ?_⟩⟩, (below_drew (Below.refl _ _)).alloc (Nat.le_refl _) _⟩
  · simp [size_zeroCells]; omega
  · simp

def cat (Z : Nat → List Int) (k : Nat) : List Int := (List.range k).flatMap Z
theorem cat_zero (Z : Nat → List Int) : cat Z 0 = [] := rfl
theorem cat_succ (Z : Nat → List Int) (k : Nat) : cat Z (k + 1) = cat Z k ++ Z k := by simp [cat, List.range_succ]

/-- Four rows stand in a row. -/
structure Rows4 (w : World) (q : Nat) (A : Nat → Option Addr) (C : Nat → Nat) (Z : Nat → List Int) : Prop where
  cell : ∀ k, k < 4 → w.cell? ⟨q, k, none⟩ = some (.slice (A k) (Z k).length (C k))
  is : ∀ k, k < 4 → IS w (A k) (Z k)
  some_ : ∀ k, k < 4 → A k = none → C k = 0
  len : ∀ k, k < 4 → (Z k).length ≤ 200
theorem Rows4.below {w w' : World} {q : Nat} {A : Nat → Option Addr} {C : Nat → Nat} {Z : Nat → List Int} (h : Rows4 w q A C Z) (hb : Below w.heap.size w w') : Rows4 w' q A C Z :=
  ⟨fun k hk => (hb.cell (World.block_lt_of_cell? w _ (h.cell k hk))).trans (h.cell k hk), fun k hk => (h.is k hk).below hb, h.some_, h.len⟩
theorem Rows4.cat_le {w : World} {q : Nat} {A : Nat → Option Addr} {C : Nat → Nat} {Z : Nat → List Int} (h : Rows4 w q A C Z) : ∀ k, k ≤ 4 → (cat Z k).length ≤ 200 * k := by
  intro k
  induction k with
  | zero => intro _; simp [cat_zero]
  | succ k ih =>
    intro hk
    rw [cat_succ, List.length_append]
    have := ih (by omega)
    have := h.len k (by omega)
    omega

def Cats (w : World) (zs : List Int) (e : Ending) (w' : World) : Prop := ∃ ao c, e = .returned (.slice ao zs.length c) ∧ w'.ownsRow w.heap.size 3 1 (.slice ao zs.length c) zs.length (iv zs) ∧ Below w.heap.size w w'

set_option maxHeartbeats 1600000 in
theorem concat_any (q : Nat) (A : Nat → Option Addr) (C : Nat → Nat) (Z : Nat → List Int) (w : World) (h : Rows4 w q A C Z) (h1 : 1 ≤ (cat Z 4).length) :
    Calls Tryd.prog 29 #[.slice (some ⟨q, 0, none⟩) 4 4] w (Cats w (cat Z 4)) := by
  have hle := h.cat_le
  have H := Lib.hid h
  clear h
  go_enter Tryd.func29, Tryd.ntmps29
  go_wp2
  go_loop [3, 11] (fun v iv' => ∃ k : Nat, k ≤ 4 ∧ iv' = .int .i64 k ∧ v = .int .i64 ((cat Z k).length : Nat)) (fun _ iv' => 4 - (intOf iv').toNat)
  case atStart => exact ⟨0, by omega, rfl, by simp [cat_zero]⟩
  case round =>
    obtain ⟨k, hk, rfl, rfl⟩ := hrel
    by_cases hlt : k < 4
    · have hc := H.out.cell k hlt
      have hl := H.out.len k hlt
      have hs := hle k hk
      have hlt' : (k : Int) < 4 := by omega
      obtain ⟨m, hm⟩ : ∃ m, m = (cat Z k).length := ⟨_, rfl⟩
      have HS : Hid ((cat Z (k + 1)).length = m + (Z k).length) := Lib.hid (by rw [cat_succ, List.length_append, hm])
      rw [← hm] at hs ⊢
      have d0 : decide (((m : Int) + (Z k).length) < 0) = false := by simp; omega
      clear hm
      go_wp2
      go_round
      case rel => exact ⟨k + 1, by omega, by go_num, by rw [HS.out]; go_num⟩
      case measure => simp [intOf]; omega
    · have hk4 : k = 4 := by omega
      have hge : (4 : Int) ≤ k := by omega
      have hs := hle 4 (by omega)
      obtain ⟨m, hm⟩ : ∃ m, m = (cat Z k).length := ⟨_, rfl⟩
      have hm4 : (cat Z 4).length = m := by rw [hm, hk4]
      rw [hm4] at hs h1
      rw [← hm]
      have HM := Lib.hid hm4
      clear hm hm4 hk4
      go_wp2_with (go_at_call 49; (refine (grow_none m _ h1 (by omega)).mono ?_); rintro e w2 ⟨c, rfl, ho, hb⟩; have HO := Lib.hid ho; have HB := Lib.hid hb; clear ho hb)
      go_loopw [6, 27] (fun v iv' wr => ∃ (k : Nat) (ao : Option Addr) (c : Nat), k ≤ 4 ∧ iv' = .int .i64 k ∧ v = .slice ao (cat Z k).length c ∧ wr.ownsRow w.heap.size 3 1 (.slice ao (cat Z k).length c) (cat Z k).length (iv (cat Z k)) ∧ Below w.heap.size w wr) (fun _ iv' _ => 4 - (intOf iv').toNat)
      case atStart => exact ⟨0, some ⟨w.heap.size, 0, none⟩, c, by omega, rfl, by simp [cat_zero], by simpa [cat_zero, iv] using HO.out, HB.out⟩
      case round =>
        clear HO HB
        obtain ⟨k, ao, c, hk, rfl, rfl, ho, hb⟩ := hrel
        have HO := Lib.hid ho
        have HB := Lib.hid hb
        clear ho hb
        by_cases hlt : k < 4
        · have H2 := Lib.hid (H.out.below HB.out)
          have hc := H2.out.cell k hlt
          have hl := H2.out.len k hlt
          have hs := hle k hk
          have hlt' : (k : Int) < 4 := by omega
          have HCA := Lib.hid ((H2.out.is k hlt).cells (c := C k) fun _ => H2.out.some_ k hlt)
          obtain ⟨ys, hys⟩ : ∃ ys, ys = cat Z k := ⟨_, rfl⟩
          have hys1 : Hid (cat Z (k + 1) = ys ++ Z k) := Lib.hid (by rw [cat_succ, hys])
          rw [← hys] at HO hs ⊢
          have hsz := HB.out.size
          clear hys
          go_wp2_with (refine wpList_append_g at22 rfl (.tmp 31) (.tmp 32) rfl w.heap.size (.slice ao ys.length c) (.slice (A k) (Z k).length (C k)) ys.length (Z k).length (iv ys) (iv (Z k)) rfl rfl HO.out HCA.out (by simp [iv_len]) (iv_one _) hsz (by omega) (by omega) ?_; intro ao2 c2 w4 hA; have HA := Lib.hid hA; clear hA)
          go_roundw
          case rel =>
            refine ⟨k + 1, ao2, c2, by omega, by go_num, ?_, ?_, HB.out.trans (HA.out.below HO.out hsz)⟩
            · rw [hys1.out, List.length_append]
            · have := HA.out.own
              rw [iv_app] at this
              rw [hys1.out, List.length_append]
              exact this
          case measure => simp [intOf]; omega
        · have hge : (4 : Int) ≤ k := by omega
          have hk4 := Lib.hid (show k = 4 by omega)
          go_wp2
          go_ret
          have e := hk4.out
          subst e
          exact ⟨ao, c, rfl, HO.out, HB.out⟩
end Go.Proofs.YtnnkegpnjedneaaDoor

/-
  Fixed of inflate.
-/
namespace Go.Proofs.YtnnkegpnjedneaaDoor
open Go.RowKit
set_option maxRecDepth 100000

theorem is_fill {w : World} {g n x : Nat} (h : Blk w g 3 (fill n x n).toArray) : IS w (some ⟨g, 0, none⟩) (List.replicate n (x : Int)) := by
  refine .inr ⟨g, 0, rfl, fun j hj => ?_⟩
  rw [List.length_replicate] at hj
  rw [Nat.zero_add, h.cell, List.getElem?_toArray, fill_at _ _ _ _ hj, if_pos hj]
  simp [List.getD, hj]
def fixZ (k : Nat) : List Int := if k = 0 then List.replicate 144 8 else if k = 1 then List.replicate 112 9 else if k = 2 then List.replicate 24 7 else List.replicate 8 8
def fixFZ : List Int := cat fixZ 4
def fixOZ : List Int := List.replicate 32 5
theorem fixFZ_nat : nat fixFZ = fixF := by decide +kernel
theorem fixOZ_nat : nat fixOZ = fixO := by decide +kernel
theorem fixFZ_len : fixFZ.length = 288 := by decide +kernel
theorem fixOZ_len : fixOZ.length = 32 := by decide +kernel

theorem repeat_at (b x n : Nat) (w : World) (h1 : 1 ≤ n) (hn : n ≤ 1000) (hb : w.heap[b]? = some (.cells #[.int .i64 (x : Nat)] 3 (0, 0))) :
    Calls Tryd.prog 30 #[.slice (some ⟨b, 0, none⟩) 1 1, .int .i64 n] w fun e w' => ∃ g, e = .returned (.slice (some ⟨g, 0, none⟩) n n) ∧ IS w' (some ⟨g, 0, none⟩) (List.replicate n (x : Int)) ∧ Below w.heap.size w w' :=
  (repeat_any b x n w h1 hn (cell_of_row w b 0 _ 3 (0, 0) hb)).mono fun _ _ k => ⟨w.heap.size, k.1, is_fill k.2.1, k.2.2⟩
def FixTo (w : World) (e : Ending) (w' : World) : Prop :=
  ∃ a1 c1 a2 c2, e = .returned (.tuple #[.slice a1 288 c1, .slice a2 32 c2]) ∧ IS w' a1 fixFZ ∧ IS w' a2 fixOZ ∧ Below w.heap.size w w'

theorem fixed_rows {w1 w2 w3 w4 : World} {g0 g1 g2 g3 : Nat} (i0 : IS w1 (some ⟨g0, 0, none⟩) (List.replicate 144 8)) (i1 : IS w2 (some ⟨g1, 0, none⟩) (List.replicate 112 9)) (i2 : IS w3 (some ⟨g2, 0, none⟩) (List.replicate 24 7)) (i3 : IS w4 (some ⟨g3, 0, none⟩) (List.replicate 8 8))
    (b1 : Below w1.heap.size w1 w2) (b2 : Below w2.heap.size w2 w3) (b3 : Below w3.heap.size w3 w4) :
    Rows4 (w4.alloc (.cells #[.slice (some ⟨g0, 0, none⟩) 144 144, .slice (some ⟨g1, 0, none⟩) 112 112, .slice (some ⟨g2, 0, none⟩) 24 24, .slice (some ⟨g3, 0, none⟩) 8 8] 29)) w4.heap.size
      (fun k => some ⟨if k = 0 then g0 else if k = 1 then g1 else if k = 2 then g2 else g3, 0, none⟩) (fun k => if k = 0 then 144 else if k = 1 then 112 else if k = 2 then 24 else 8) fixZ := by
  have hA := (Below.refl w4.heap.size w4).alloc (Nat.le_refl _) (.cells #[.slice (some ⟨g0, 0, none⟩) 144 144, .slice (some ⟨g1, 0, none⟩) 112 112, .slice (some ⟨g2, 0, none⟩) 24 24, .slice (some ⟨g3, 0, none⟩) 8 8] 29)
  have k3 := i3.below hA
  have k2 := (i2.below b3).below hA
  have k1 := ((i1.below b2).below b3).below hA
  have k0 := (((i0.below b1).below b2).below b3).below hA
  refine ⟨fun k hk => ?_, fun k hk => ?_, fun k hk h => by simp at h, fun k hk => ?_⟩
  · rw [(Blk.made w4 29 _).cell k]
    match k, hk with
    | 0, _ => rfl
    | 1, _ => rfl
    | 2, _ => rfl
    | 3, _ => rfl
  · match k, hk with
    | 0, _ => exact k0
    | 1, _ => exact k1
    | 2, _ => exact k2
    | 3, _ => exact k3
  · match k, hk with
    | 0, _ => decide
    | 1, _ => decide
    | 2, _ => decide
    | 3, _ => decide

set_option maxHeartbeats 1600000 in
theorem Fixed_any (w : World) : Calls Tryd.prog 18 #[] w (FixTo w) := by
  go_enter Tryd.func18, Tryd.ntmps18
  go_wp2_with fail
  refine (repeat_at _ 8 144 _ (by omega) (by omega) (Blk.made w 3 _)).mono ?_
  rintro e w1 ⟨g0, rfl, i0, b0⟩
  have B0 := Lib.hid (((Below.refl w.heap.size w).alloc (Nat.le_refl _) _).trans (b0.mono (by simp)))
  have I0 := Lib.hid i0
  clear i0 b0
  go_wp2_with fail
  refine (repeat_at _ 9 112 _ (by omega) (by omega) (Blk.made w1 3 _)).mono ?_
  rintro e w2 ⟨g1, rfl, i1, b1⟩
  have B1 := Lib.hid (((Below.refl w1.heap.size w1).alloc (Nat.le_refl _) _).trans (b1.mono (by simp)))
  have I1 := Lib.hid i1
  clear i1 b1
  go_wp2_with fail
  refine (repeat_at _ 7 24 _ (by omega) (by omega) (Blk.made w2 3 _)).mono ?_
  rintro e w3 ⟨g2, rfl, i2, b2⟩
  have B2 := Lib.hid (((Below.refl w2.heap.size w2).alloc (Nat.le_refl _) _).trans (b2.mono (by simp)))
  have I2 := Lib.hid i2
  clear i2 b2
  go_wp2_with fail
  refine (repeat_at _ 8 8 _ (by omega) (by omega) (Blk.made w3 3 _)).mono ?_
  rintro e w4 ⟨g3, rfl, i3, b3⟩
  have B3 := Lib.hid (((Below.refl w3.heap.size w3).alloc (Nat.le_refl _) _).trans (b3.mono (by simp)))
  have I3 := Lib.hid i3
  clear i3 b3
  go_wp2_with fail
  refine (concat_any _ _ _ fixZ _ (fixed_rows I0.out I1.out I2.out I3.out B1.out B2.out B3.out) (by decide +kernel)).mono ?_
  rintro e w5 ⟨a1, c1, rfl, o1, b5⟩
  have hl : (cat fixZ 4).length = 288 := fixFZ_len
  rw [hl] at o1 ⊢
  have I5 : Hid (IS w5 a1 fixFZ) := Lib.hid (own_is o1 fixFZ_len)
  have B5 := Lib.hid (((Below.refl w4.heap.size w4).alloc (Nat.le_refl _) _).trans (b5.mono (by simp)))
  clear o1 b5 hl
  go_wp2_with fail
  refine (repeat_at _ 5 32 _ (by omega) (by omega) (Blk.made w5 3 _)).mono ?_
  rintro e w6 ⟨g6, rfl, i6, b6⟩
  have B6 := Lib.hid (((Below.refl w5.heap.size w5).alloc (Nat.le_refl _) _).trans (b6.mono (by simp)))
  have I6 := Lib.hid i6
  clear i6 b6
  go_wp2
  go_ret2
  have s0 := B0.out.size
  have s1 := B1.out.size
  have s2 := B2.out.size
  have s3 := B3.out.size
  have s5 := B5.out.size
  exact ⟨a1, c1, _, 32, rfl, I5.out.below B6.out, I6.out, B0.out.trans ((B1.out.mono (by omega)).trans ((B2.out.mono (by omega)).trans ((B3.out.mono (by omega)).trans ((B5.out.mono (by omega)).trans (B6.out.mono (by omega))))))⟩
end Go.Proofs.YtnnkegpnjedneaaDoor

