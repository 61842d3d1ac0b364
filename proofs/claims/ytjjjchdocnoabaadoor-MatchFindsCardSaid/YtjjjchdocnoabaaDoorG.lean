
/-
  Append onto a row of the call's own, of whatever elements; rows of integers.
-/
import Derived.Test.YtjjjchdocnoabaaDoorL
import Derived.Laws.OwnMore
import Derived.Laws.AppendOwn
import Derived.OwnWalk
namespace Go.Proofs.YtjjjchdocnoabaaDoor
open Go.RowKit
set_option maxRecDepth 100000

theorem Touch.none_below {a b : World} (h : Touch (fun _ => False) a b) : Below a.heap.size a b := h.below (Nat.le_refl _) fun _ h => h.elim
theorem ownsRow_below {w w' : World} {base : Nat} {e : TypeId} {size : Nat} {v : Value} {n : Nat} {xs : List Value} (h : w.ownsRow base e size v n xs) (hb : Below w.heap.size w w') : w'.ownsRow base e size v n xs :=
  ownsRow_touch h (Touch.of_below (S := fun _ => False) hb) fun _ _ h => h
theorem own_none (w : World) (e size : Nat) : (w.alloc (.cells #[] e)).ownsRow w.heap.size e size (.slice (some ⟨w.heap.size, 0, none⟩) 0 0) 0 [] :=
  World.ownsRow_made w #[] 0 (Nat.le_refl _) (Nat.zero_le _) (by simp)

/-- Behind an append: the row is owned; only the old row may have been written; the new row is the old one or a new one. -/
structure Apg (w : World) (base e sz : Nat) (v : Value) (n : Nat) (xs : List Value) (v' : Value) (w' : World) : Prop where
  own : w'.ownsRow base e sz v' n xs
  touch : Touch (fun k => v.ownBlock = some k) w w'
  row : ∀ k, v'.ownBlock = some k → v.ownBlock = some k ∨ w.heap.size ≤ k

theorem Apg.trans {a b c : World} {base e sz n m : Nat} {v1 v2 v3 : Value} {xs ys : List Value} (h : Apg a base e sz v1 n xs v2 b) (k : Apg b base e sz v2 m ys v3 c) : Apg a base e sz v1 m ys v3 c := by
  refine ⟨k.own, h.touch.trans' k.touch fun i hi hlt => ?_, fun i hi => ?_⟩
  · rcases h.row i hi with h1 | h1
    · exact h1
    · omega
  · rcases k.row i hi with h1 | h1
    · exact h.row i h1
    · right; have := h.touch.size; omega
theorem Apg.alloc {a b : World} {base e sz n : Nat} {v1 v2 : Value} {xs : List Value} {o : Obj} (k : Apg (a.alloc o) base e sz v1 n xs v2 b) : Apg a base e sz v1 n xs v2 b :=
  ⟨k.own, ((Touch.refl _ a).alloc o).trans k.touch, fun i hi => by
    rcases k.row i hi with h | h
    · exact .inl h
    · right; simp at h; omega⟩
theorem Apg.below {a b : World} {base e sz n : Nat} {v1 v2 : Value} {xs ys : List Value} {m : Nat} (k : Apg a base e sz v1 n xs v2 b) (h : a.ownsRow base e sz v1 m ys) (hb : base ≤ a.heap.size) : Below base a b :=
  k.touch.below hb fun i hi => (h.lt i hi).1

/-- A slice value whose cells are these, m elements. -/
def CellsAt (w : World) (sv : Value) (m : Nat) (ys : List Value) : Prop :=
  (sv = .slice none 0 0 ∧ m = 0 ∧ ys = []) ∨ ∃ ad c, sv = .slice (some ad) m c ∧ ∀ j u, ys[j]? = some u → w.cell? (ad.add j) = some u

/-- What append wants to know of a slice type. -/
structure AT (t e : Nat) (z : Value) (size bytes : Nat) : Prop where
  hu : Tryd.prog.underlying t = some (.slice e)
  info : (Tryd.prog.info? e).map (fun i => (i.zero, i.size, i.bytes)) = some (some z, size, bytes)
  zs : z.cells.size = size
  pos : 0 < size

theorem run_append_g {t e : Nat} {z : Value} {size bytes : Nat} (T : AT t e z size bytes) (w : World) {base : Nat} {v sv : Value} {n m : Nat} {xs ys : List Value} (ty : TypeId) (hown : w.ownsRow base e size v n xs) (hs : CellsAt w sv m ys)
    (hyl : ys.length = m * size) (h1 : ∀ u ∈ ys, u.oneCell' = true) (hbase : base ≤ w.heap.size) (hl : n + m ≤ 140737488355328) (hby : (n + m) * bytes ≤ 140737488355328) :
    ∃ v' w', (Builtin.append_ #[t, t] ty #[v, sv]).run Tryd.prog w = .ok v' w' ∧ Apg w base e size v (n + m) (xs ++ ys) v' w' := by
  obtain ⟨i0, hi, hz0, hz1, hz2⟩ := info_parts T.info
  rcases hs with ⟨rfl, rfl, rfl⟩ | ⟨ad, c, rfl, hcell⟩
  · refine ⟨v, w, run_append_owned_none w base t ty e i0 size T.hu hi v n xs hown, ?_, Touch.refl _ _, fun k hk => .inl hk⟩
    simpa using hown
  · rcases hown.2 with ⟨rfl, hn0⟩ | ⟨g, cap, cur, rfl, hbg, hh, hnc, hcm, hcs, htake⟩
    · subst hn0
      have hx : xs = [] := List.eq_nil_of_length_eq_zero (by rw [hown.1, Nat.zero_mul])
      subst hx
      obtain ⟨v', w', hr, ho, hg, _⟩ := run_append_own (P := Tryd.prog) w w.heap.size t ty e i0 z size bytes T.hu hi hz0 hz1 hz2 T.zs T.pos (.slice none 0 0) 0 [] (World.ownsRow_nil _ _ _ _) ad m c ys hyl hcell h1 (by unfold maxLen; omega) hby (Nat.le_refl _)
      exact ⟨v', w', hr, own_base ho hbase, (Touch.refl _ w).grown hg fun k hk => by simp [Value.ownBlock] at hk, fun k hk => .inr (ho.lt k hk).1⟩
    · by_cases hroom : n + m ≤ cap
      · obtain ⟨w', hr, ho, hg⟩ := run_append_fits (P := Tryd.prog) w base t ty e i0 size T.hu hi hz1 g n cap xs hown ad m c ys hyl hcell h1 hroom
        exact ⟨_, w', hr, ho, (Touch.refl _ w).grown hg fun k hk => .inl (by cases hk; simp [Value.ownBlock]), fun k hk => .inl (by simpa [Value.ownBlock] using hk)⟩
      · obtain ⟨v', w', hr, ho, hg⟩ := run_append_arg_grows (P := Tryd.prog) w t ty e i0 z size bytes T.hu hi hz0 hz1 hz2 T.zs T.pos ⟨g, 0, none⟩ n cap xs hown.1 (hown.cells (by simp [Value.ownBlock])) ad m c ys hyl hcell (by omega) (by unfold maxLen; omega) hby
        exact ⟨v', w', hr, own_base ho hbase, (Touch.refl _ w).grown hg (fun k hk => by cases hk), fun k hk => .inr (ho.lt k hk).1⟩

theorem wpList_append_g {t e : Nat} {z : Value} {size bytes : Nat} (T : AT t e z size bytes) {w : World} {ops : Array Oper} {rest : List Oper} {o : Oper} {a : Act} {Q : Exit → Act → World → Prop} (hgd : o.guard = none) (s x : Operand)
    (ho : o.op = .call { callee := .builtin .append, args := #[s, x], argTypes := #[t, t] })
    (base : Nat) (v sv : Value) (n m : Nat) (xs ys : List Value) (hs : a.eval s = v) (hx : a.eval x = sv) (hown : w.ownsRow base e size v n xs) (hsrc : CellsAt w sv m ys)
    (hyl : ys.length = m * size) (h1 : ∀ u ∈ ys, u.oneCell' = true) (hbase : base ≤ w.heap.size) (hl : n + m ≤ 140737488355328) (hby : (n + m) * bytes ≤ 140737488355328)
    (h : ∀ ao c w', Apg w base e size v (n + m) (xs ++ ys) (.slice ao (n + m) c) w' → wpList Tryd.prog ops Q rest (a.put o.dst (.slice ao (n + m) c)) w') : wpList Tryd.prog ops Q (o :: rest) a w := by
  refine wpList_plain hgd fun K hK => ?_
  obtain ⟨v', w', hrun, hA⟩ := run_append_g T w o.type hown hsrc hyl h1 hbase hl hby
  obtain ⟨ao, c, rfl⟩ := own_shape hA.own
  unfold Oper.wp
  simp [execOp, ho, resolve, invoke, builtin, hs, hx, hrun, Result.andThen]
  exact hK _ _ (by simpa using h ao c w' hA)


/-- A row of integers. -/
def iv (zs : List Int) : List Value := zs.map fun z => .int .i64 z
theorem iv_len (zs : List Int) : (iv zs).length = zs.length := by simp [iv]
theorem iv_one (zs : List Int) : ∀ u ∈ iv zs, u.oneCell' = true := by
  intro u hu
  obtain ⟨_, _, rfl⟩ := List.mem_map.1 hu
  rfl
theorem iv_app (a b : List Int) : iv a ++ iv b = iv (a ++ b) := by simp [iv]
theorem iv_at (zs : List Int) (j : Nat) (h : j < zs.length) : (iv zs)[j]? = some (.int .i64 (zs.getD j 0)) := by simp [iv, h, List.getD]
theorem at22 : AT 47 3 (.int .i64 0) 1 8 := ⟨by kernel_rfl, by kernel_rfl, rfl, by omega⟩
/-- Integers that came in, as append wants them. -/
theorem IS.cells {w : World} {ao : Option Addr} {zs : List Int} {c : Nat} (h : IS w ao zs) (hn : zs = [] → ao = none → c = 0) : CellsAt w (.slice ao zs.length c) zs.length (iv zs) := by
  rcases h with rfl | ⟨b, off, rfl, hc⟩
  · cases ao with
    | none => exact .inl ⟨by rw [hn rfl rfl]; rfl, rfl, rfl⟩
    | some ad => exact .inr ⟨ad, c, rfl, fun j u hu => by simp [iv] at hu⟩
  · refine .inr ⟨_, c, rfl, fun j u hu => ?_⟩
    have hj : j < zs.length := by
      have := (List.getElem?_eq_some_iff.1 hu).1
      rwa [iv_len] at this
    rw [Addr.add_lit, hc j hj, ← hu, iv_at zs j hj]
theorem own_is {w : World} {base : Nat} {ao : Option Addr} {c n : Nat} {zs : List Int} (h : w.ownsRow base 3 1 (.slice ao n c) n (iv zs)) (hn : zs.length = n) : IS w ao zs := by
  subst hn
  rcases h.2 with ⟨e, h0⟩ | ⟨g, cap, cur, e, hbg, hh, hnc, hcm, hcs, htake⟩
  · exact .inl (List.eq_nil_of_length_eq_zero h0)
  · simp only [Value.slice.injEq] at e
    obtain ⟨rfl, _, rfl⟩ := e
    refine .inr ⟨g, 0, rfl, fun j hj => ?_⟩
    rw [Nat.zero_add, World.ownsRow.cellAt h j (by omega), iv_at zs j hj]
theorem blk_is {w : World} {g n : Nat} {f : Nat → Nat} (h : Blk w g 3 (ia n f)) (zs : List Int) (hn : zs.length = n) (hf : ∀ j, j < n → zs.getD j 0 = (f j : Nat)) : IS w (some ⟨g, 0, none⟩) zs :=
  .inr ⟨g, 0, rfl, fun j hj => by rw [Nat.zero_add, h.cell, va_at n _ j (by omega), hf j (by omega)]⟩
end Go.Proofs.YtjjjchdocnoabaaDoor
