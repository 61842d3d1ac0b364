/-
  What lengthen keeps in memory, and what it comes to.
-/
import Derived.Test.YtccfbkbfmkdapaaEa
import Derived.Test.YtccfbkbfmkdapaaDb
namespace Go.Proofs.Ytccfbkbfmkdapaa
open Go.RowKit Go.Shelf

/-- How many coins are taken of the row behind p others; how many of them are single. -/
def stk (cs : List Nat) (D : Nat) : Nat → Nat
  | 0 => 2 * cs.length - 2
  | p + 1 => 2 * (stk cs D p - ones (row cs (D - p)) (stk cs D p))
def mss (cs : List Nat) (D p : Nat) : Nat := ones (row cs (D - p)) (stk cs D p)
theorem stk_le {cs : List Nat} {D : Nat} (F : Fit cs D) (p : Nat) (hp : p ≤ D) : stk cs D p ≤ (row cs (D - p)).length := by
  induction p with
  | zero => exact F.enough
  | succ p ih =>
    have h := ih (by omega)
    rw [show D - p = D - (p + 1) + 1 by omega] at h
    obtain ⟨m, S, h1, h2⟩ := row_split F.up (D - (p + 1)) _ h
    rw [stk, show D - p = D - (p + 1) + 1 by omega, h1]
    exact h2
theorem lev_from {cs : List Nat} {D : Nat} (p : Nat) (hp : p ≤ D) : lev cs (D - p) (stk cs D p) = (List.range (D - p + 1)).map fun q => mss cs D (p + q) := by
  obtain ⟨r, hr⟩ : ∃ r, r = D - p := ⟨_, rfl⟩
  induction r generalizing p with
  | zero =>
    rw [← hr, lev]
    simp [mss, ← hr]
  | succ r ih =>
    have h := ih (p + 1) (by omega) (by omega)
    rw [← hr, lev, List.range_succ_eq_map, List.map_cons, List.map_map]
    have e : stk cs D (p + 1) = 2 * (stk cs D p - ones (row cs (r + 1)) (stk cs D p)) := by rw [stk, ← hr]
    rw [← e, show D - (p + 1) = r by omega] at *
    rw [h]
    congr 1
    · simp [mss, ← hr]
    · apply List.map_congr_left
      intro q _
      show mss cs D (p + 1 + q) = mss cs D (p + (q + 1))
      rw [show p + 1 + q = p + (q + 1) by omega]
theorem lev_mss {cs : List Nat} (D : Nat) : top cs D = (List.range (D + 1)).map (mss cs D) := by
  have := lev_from (cs := cs) (D := D) 0 (Nat.zero_le _)
  rw [Nat.sub_zero] at this
  rw [top, show 2 * cs.length - 2 = stk cs D 0 from rfl, this]
  congr 1
  funext q
  rw [Nat.zero_add]
/-- The lengths behind p rows. -/
def gl' (cs : List Nat) (D p i : Nat) : Nat := la ((List.range p).map (mss cs D)) i
theorem gl_zero (cs : List Nat) (D i : Nat) : gl' cs D 0 i = 0 := rfl
theorem gl_succ (cs : List Nat) (D p i : Nat) : gl' cs D (p + 1) i = gl' cs D p i + if i < mss cs D p then 1 else 0 := by
  unfold gl' la
  rw [List.range_succ, List.map_append, List.countP_append]
  simp [List.countP_cons]
theorem gl_le (cs : List Nat) (D p i : Nat) : gl' cs D p i ≤ p := by
  have := la_le ((List.range p).map (mss cs D)) i
  simpa [gl'] using this

/-- Of each symbol what its place has. -/
def LF (us : List Nat) (G : Nat → Nat) (s : Nat) : Nat := if s ∈ us then G (us.idxOf s) else 0
theorem LF_at {us : List Nat} (hn : us.Nodup) (G : Nat → Nat) {i : Nat} (hi : i < us.length) : LF us G (us.getD i 0) = G i := by
  have e : us.getD i 0 = us[i] := by simp [List.getD, hi]
  rw [e, LF, if_pos (List.getElem_mem hi), hn.idxOf_getElem i hi]
theorem LF_put {us : List Nat} (hn : us.Nodup) (G : Nat → Nat) {j : Nat} (hj : j < us.length) (s : Nat) :
    LF us (fun i => G i + if i < j + 1 then 1 else 0) s = if s = us.getD j 0 then LF us (fun i => G i + if i < j then 1 else 0) s + 1 else LF us (fun i => G i + if i < j then 1 else 0) s := by
  unfold LF
  by_cases hs : s ∈ us
  · rw [if_pos hs, if_pos hs]
    obtain ⟨i, hi, rfl⟩ := List.getElem_of_mem hs
    rw [hn.idxOf_getElem i hi]
    show G i + (if i < j + 1 then 1 else 0) = if us[i] = us.getD j 0 then G i + (if i < j then 1 else 0) + 1 else G i + (if i < j then 1 else 0)
    have e : us.getD j 0 = us[j] := by simp [List.getD, hj]
    rw [e]
    by_cases hij : i = j
    · subst hij
      rw [if_pos rfl, if_pos (by omega), if_neg (by omega)]
    · rw [if_neg (fun h => hij ((List.getElem_inj hn).1 h))]
      by_cases h1 : i < j
      · rw [if_pos (by omega), if_pos h1]
      · rw [if_neg (by omega), if_neg h1]
  · rw [if_neg hs, if_neg hs]
    rw [if_neg (fun h => hs (by rw [h]; simp [List.getD, hj]))]
theorem LF_none (us : List Nat) (G : Nat → Nat) : LF us (fun i => G i + if i < 0 then 1 else 0) = LF us G := by
  funext s; unfold LF; simp

/-- A block of integers is none of coins. -/
theorem coins_apart {W : World} {gl N : Nat} {f : Nat → Nat} (hA : Blk W gl 3 (ia N f)) {b off : Nat} {r : List (Nat × Bool)} (h : W.rangeAt b off (cl r)) (hr : r ≠ []) : b ≠ gl := fun e => by
  subst e
  have h1 := h _ _ (cl_at r 0 (List.length_pos_iff.2 hr)).2
  rw [hA.cell] at h1
  have h2 := (Array.getElem?_eq_some_iff.1 h1).1
  rw [va_size] at h2
  rw [va_at N _ _ h2] at h1
  cases h1

/-- The names of the blocks that lengthen has to do with. -/
structure Nm where
  bL : Nat
  bU : Nat
  bT : Nat
  gl : Nat
  N : Nat
  bo : Option Addr
  cu : Nat
  k : Nat
  rs : Nat → Sv
/-- What lengthen keeps. -/
structure Lst (n : Nm) (w : World) (cs us : List Nat) (t : Nat) (f : Nat → Nat) (X : World) : Prop where
  L : Blk X n.bL 22 #[.slice (some ⟨n.gl, 0, none⟩) n.N n.N]
  U : Blk X n.bU 22 #[.slice n.bo us.length n.cu]
  T : Blk X n.bT 3 #[.int .i64 t]
  A : Blk X n.gl 3 (ia n.N f)
  us : IS X n.bo (ints us)
  rows : ∀ j, j < n.k → CS X (n.rs j).1 (row cs j)
  tch : Touch (fun k => k = n.gl) w X
/-- The blocks are apart. -/
structure Apart (n : Nm) (w : World) (us : List Nat) : Prop where
  g : n.gl < w.heap.size
  l : w.heap.size ≤ n.bL ∧ w.heap.size ≤ n.bU ∧ w.heap.size ≤ n.bT
  d : n.bL ≠ n.bT ∧ n.bU ≠ n.bT
  u : ∀ b off, n.bo = some ⟨b, off, none⟩ → us ≠ [] → b < w.heap.size ∧ b ≠ n.gl
  r : ∀ j b off, j < n.k → (n.rs j).1 = some ⟨b, off, none⟩ → b < w.heap.size ∧ b ≠ n.gl

theorem CS.touch {S : Nat → Prop} {w w' : World} {ao : Option Addr} {r : List (Nat × Bool)} (h : CS w ao r) (ht : Touch S w w') (hs : ∀ b off, ao = some ⟨b, off, none⟩ → r ≠ [] → ¬ S b) : CS w' ao r := by
  rcases h with h | ⟨b, off, rfl, hc⟩
  · exact .inl h
  · by_cases e : r = []
    · exact .inl e
    · exact .inr ⟨b, off, rfl, fun j v hv => by
        have h1 := hc j v hv
        exact (World.cell?_of_block (ht.block b (World.block_lt_of_cell? w _ h1) (hs b off rfl e))).trans h1⟩
theorem ints_ne {us : List Nat} (h : ints us ≠ []) : us ≠ [] := fun e => h (by rw [e]; rfl)

theorem Lst.alloc {n : Nm} {w X : World} {cs us : List Nat} {t : Nat} {f : Nat → Nat} (h : Lst n w cs us t f X) (o : Obj) : Lst n w cs us t f (X.alloc o) := by
  have ht := (Touch.refl (fun _ => False) X).alloc o
  exact ⟨h.L.touch ht (fun h => h), h.U.touch ht (fun h => h), h.T.touch ht (fun h => h), h.A.touch ht (fun h => h), h.us.touch ht (fun _ _ _ _ h => h), fun j hj => (h.rows j hj).touch ht (fun _ _ _ _ h => h), h.tch.alloc o⟩
theorem Lst.drew {n : Nm} {w X : World} {cs us : List Nat} {t : Nat} {f : Nat → Nat} (h : Lst n w cs us t f X) : Lst n w cs us t f X.drew :=
  ⟨h.L, h.U, h.T, h.A, h.us, h.rows, h.tch.drew⟩
theorem Lst.setA {n : Nm} {w X : World} {cs us : List Nat} {t : Nat} {f : Nat → Nat} (h : Lst n w cs us t f X) (a : Apart n w us) (s : Nat) (u : Nat) (g : Nat → Nat) (hg : ∀ i, i < n.N → g i = if i = s then u else f i) :
    Lst n w cs us t g (X.setCell ⟨n.gl, s, none⟩ (.int .i64 (u : Nat))) := by
  have ht : Touch (fun k => k = n.gl) X (X.setCell ⟨n.gl, s, none⟩ (.int .i64 (u : Nat))) := (Touch.refl _ X).setCell _ _ (.inl rfl)
  have h1 := a.g
  have h2 := a.l
  refine ⟨h.L.touch ht (by omega), h.U.touch ht (by omega), h.T.touch ht (by omega), ?_, h.us.touch ht (fun b off e hne hb => (a.u b off e (ints_ne hne)).2 hb), fun j hj => (h.rows j hj).touch ht (fun b off e _ hb => (a.r j b off hj e).2 hb), h.tch.trans ht⟩
  have := h.A.setCell s (.int .i64 (u : Nat))
  rwa [ia_set n.N f g s u hg] at this
theorem Lst.setT {n : Nm} {w X : World} {cs us : List Nat} {t : Nat} {f : Nat → Nat} (h : Lst n w cs us t f X) (a : Apart n w us) (u : Nat) : Lst n w cs us u f (X.setCell ⟨n.bT, 0, none⟩ (.int .i64 (u : Nat))) := by
  have ht : Touch (fun k => k = n.bT) X (X.setCell ⟨n.bT, 0, none⟩ (.int .i64 (u : Nat))) := (Touch.refl _ X).setCell _ _ (.inl rfl)
  have h1 := a.g
  have h2 := a.l
  refine ⟨h.L.touch ht a.d.1, h.U.touch ht a.d.2, h.T.setCell 0 _, h.A.touch ht (by omega), h.us.touch ht (fun b off e hne hb => by have := (a.u b off e (ints_ne hne)).1; omega), fun j hj => (h.rows j hj).touch ht (fun b off e _ hb => by have := (a.r j b off hj e).1; omega), h.tch.setCell _ _ (.inr h2.2.2)⟩
theorem lst_own (n : Nm) (w : World) (cs us : List Nat) (T : List (Nat × Sv) → Nat) (F : List (Nat × Sv) → Nat → Nat) (m : Nat) (hm : w.heap.size ≤ m) : OwnFrom m (fun (pre : List (Nat × Sv)) X => Lst n w cs us (T pre) (F pre) X) := fun s A B row hs hg hr => by
  have hr' := fun r e => (hr r e).2
  refine ⟨blk_kept hs.L hg hr', blk_kept hs.U hg hr', blk_kept hs.T hg hr', blk_kept hs.A hg hr', ?_, fun j hj => ?_, hs.tch.grown hg fun k e => .inr (Nat.le_trans hm (hr k e).1)⟩
  · rcases hs.us with h | ⟨b, off, e, hc⟩
    · exact .inl h
    · exact .inr ⟨b, off, e, fun j hj => cell_kept (hc j hj) hg hr'⟩
  · rcases hs.rows j hj with h | ⟨b, off, e, hc⟩
    · exact .inl h
    · exact .inr ⟨b, off, e, fun i x hx => cell_kept (hc i x hx) hg hr'⟩
end Go.Proofs.Ytccfbkbfmkdapaa
