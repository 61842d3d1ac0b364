
/-
  Words for memory: what may have changed; rows of bytes; append onto rows of the call's own, of whatever elements.
-/
import Derived.Test.YtmnkdnlmpgmdgaaDoorRows
import Derived.WalkKit
import Derived.Below
import Derived.Lib.Hide
import Derived.Laws.OwnMore
import Derived.Laws.AppendOwn
import Derived.Laws.AppendOwnNone
import Derived.Laws.Rows
import Derived.OwnWalk
import Derived.Deep.RegionLawGrows
import Derived.Deep.AppendLies
import Derived.Deep.MidRow
import Derived.Deep.Draws
namespace Go.Proofs.YtmnkdnlmpgmdgaaDoor
open Go.RowKit

theorem ret_int {k : IntKind} {a b : Int} (h : a = b) : Ending.returned (.int k a) = .returned (.int k b) := by rw [h]

/-- Of the blocks of w only those of S may have changed. -/
structure Touch (S : Nat → Prop) (w w' : World) : Prop where
  os : w'.os = w.os
  tape : w'.tape = w.tape
  output : w'.output = w.output
  size : w.heap.size ≤ w'.heap.size
  block : ∀ k, k < w.heap.size → ¬ S k → w'.heap[k]? = w.heap[k]?

theorem Touch.refl (S : Nat → Prop) (w : World) : Touch S w w := ⟨rfl, rfl, rfl, Nat.le_refl _, fun _ _ _ => rfl⟩
/-- The second step may also touch what the first one has made. -/
theorem Touch.trans' {S T : Nat → Prop} {a b c : World} (h : Touch S a b) (k : Touch T b c) (hT : ∀ i, T i → i < a.heap.size → S i) : Touch S a c :=
  ⟨k.os.trans h.os, k.tape.trans h.tape, k.output.trans h.output, Nat.le_trans h.size k.size, fun i hi hs => (k.block i (Nat.lt_of_lt_of_le hi h.size) (fun ht => hs (hT i ht hi))).trans (h.block i hi hs)⟩
theorem Touch.trans {S : Nat → Prop} {a b c : World} (h : Touch S a b) (k : Touch S b c) : Touch S a c := h.trans' k fun _ h _ => h
theorem Touch.mono {S T : Nat → Prop} {a b : World} (h : Touch S a b) (hT : ∀ i, S i → T i) : Touch T a b :=
  ⟨h.os, h.tape, h.output, h.size, fun i hi hs => h.block i hi fun s => hs (hT i s)⟩
theorem Touch.drewN {S : Nat → Prop} {a w : World} (h : Touch S a w) (n : Nat) : Touch S a (w.drewN n) := ⟨h.os, h.tape, h.output, h.size, h.block⟩
theorem Touch.drew {S : Nat → Prop} {a w : World} (h : Touch S a w) : Touch S a w.drew := ⟨h.os, h.tape, h.output, h.size, h.block⟩
theorem Touch.alloc {S : Nat → Prop} {a w : World} (h : Touch S a w) (o : Obj) : Touch S a (w.alloc o) :=
  h.trans ⟨rfl, rfl, rfl, by simp, fun k hk _ => Below.heap_alloc _ _ _ hk⟩
theorem Touch.setCell {S : Nat → Prop} {a w : World} (h : Touch S a w) (p : Addr) (u : Value) (hp : S p.block ∨ a.heap.size ≤ p.block) : Touch S a (w.setCell p u) :=
  ⟨h.os, h.tape, h.output, Nat.le_trans h.size (by simp [World.setCell]), fun k hk hs => (Below.heap_setCell _ _ _ _ (fun e => by subst e; rcases hp with hp | hp; exact hs hp; omega)).trans (h.block k hk hs)⟩
theorem Touch.grown {S : Nat → Prop} {a w w' : World} {row : Option Nat} (h : Touch S a w) (hg : w.grownBy w' row) (hr : ∀ k, row = some k → S k ∨ a.heap.size ≤ k) : Touch S a w' :=
  ⟨hg.os.trans h.os, hg.tape.trans h.tape, hg.output.trans h.output, Nat.le_trans h.size hg.size, fun k hk hs =>
    (hg.block k (Nat.lt_of_lt_of_le hk h.size) (fun e => by rcases hr k e.symm with hp | hp; exact hs hp; omega)).trans (h.block k hk hs)⟩
theorem Touch.below {S : Nat → Prop} {a b : World} {B : Nat} (h : Touch S a b) (hB : B ≤ a.heap.size) (hS : ∀ k, S k → B ≤ k) : Below B a b :=
  ⟨h.os, h.tape, h.output, h.size, fun k hk => h.block k (by omega) fun s => by have := hS k s; omega⟩
theorem Touch.of_below {S : Nat → Prop} {a b : World} (h : Below a.heap.size a b) : Touch S a b := ⟨h.os, h.tape, h.output, h.size, fun k hk _ => h.block k hk⟩
theorem Touch.none_below {a b : World} (h : Touch (fun _ => False) a b) : Below a.heap.size a b := h.below (Nat.le_refl _) fun _ h => h.elim

theorem below_drewN {B : Nat} {a w : World} (h : Below B a w) (q : Nat) : Below B a (w.drewN q) := ⟨h.os, h.tape, h.output, h.size, h.block⟩

/-! ### Rows of bytes -/
/-- Numbers below 256. -/
def Bs (l : List Nat) : Prop := ∀ x ∈ l, x < 256
theorem Bs.at {a : List Nat} (ha : Bs a) (k : Nat) : a.getD k 0 < 256 := by
  rw [List.getD_eq_getElem?_getD]
  cases h : a[k]? with
  | none => simp
  | some x => simpa using ha x (List.mem_of_getElem? h)
theorem Bs.take {a : List Nat} (ha : Bs a) (k : Nat) : Bs (a.take k) := fun x h => ha x (List.mem_of_mem_take h)
theorem Bs.drop {a : List Nat} (ha : Bs a) (k : Nat) : Bs (a.drop k) := fun x h => ha x (List.mem_of_mem_drop h)
theorem Bs.app {a b : List Nat} (ha : Bs a) (hb : Bs b) : Bs (a ++ b) := fun x h => by
  rcases List.mem_append.1 h with h | h
  · exact ha x h
  · exact hb x h
theorem Bs.nil : Bs [] := fun x h => by cases h

/-- A slice's address at which these bytes lie. -/
def Src (w : World) (ao : Option Addr) (xs : List Nat) : Prop :=
  xs = [] ∨ ∃ b off, ao = some ⟨b, off, none⟩ ∧ ∀ j, j < xs.length → w.cell? ⟨b, off + j, none⟩ = some (.int .u8 (xs.getD j 0 : Nat))

theorem Src.below {w w' : World} {ao : Option Addr} {xs : List Nat} (h : Src w ao xs) (hb : Below w.heap.size w w') : Src w' ao xs := by
  rcases h with h | ⟨b, off, rfl, hc⟩
  · exact .inl h
  · exact .inr ⟨b, off, rfl, fun j hj => by
      have := hc j hj
      exact (hb.cell (World.block_lt_of_cell? w _ this)).trans this⟩
theorem Src.touch {S : Nat → Prop} {w w' : World} {ao : Option Addr} {xs : List Nat} (h : Src w ao xs) (ht : Touch S w w') (hs : ∀ b off, ao = some ⟨b, off, none⟩ → xs ≠ [] → ¬ S b) : Src w' ao xs := by
  rcases h with h | ⟨b, off, rfl, hc⟩
  · exact .inl h
  · by_cases hx : xs = []
    · exact .inl hx
    · refine .inr ⟨b, off, rfl, fun j hj => ?_⟩
      have h1 := hc j hj
      rw [← h1]
      exact World.cell?_of_block (ht.block b (World.block_lt_of_cell? w _ h1) (hs b off rfl hx))

/-- A slice of these bytes, nil too. -/
structure Sl (w : World) (ao : Option Addr) (c : Nat) (xs : List Nat) : Prop where
  src : Src w ao xs
  le : xs.length ≤ c
  big : c ≤ maxLen
  nil : ao = none → c = 0
  bs : Bs xs

theorem Sl.below {w w' : World} {ao : Option Addr} {c : Nat} {xs : List Nat} (h : Sl w ao c xs) (hb : Below w.heap.size w w') : Sl w' ao c xs := ⟨h.src.below hb, h.le, h.big, h.nil, h.bs⟩
theorem Sl.drewN {w : World} {ao : Option Addr} {c : Nat} {xs : List Nat} (h : Sl w ao c xs) (n : Nat) : Sl (w.drewN n) ao c xs := h.below (below_drewN (Below.refl _ _) n)
theorem Sl.drew {w : World} {ao : Option Addr} {c : Nat} {xs : List Nat} (h : Sl w ao c xs) : Sl w.drew ao c xs := h.drewN 1
theorem Sl.none_ (w : World) : Sl w none 0 [] := ⟨.inl rfl, Nat.le_refl _, by simp [maxLen], fun _ => rfl, Bs.nil⟩
/-- A cut. -/
theorem Sl.cut {w : World} {ao : Option Addr} {c : Nat} {xs : List Nat} (h : Sl w ao c xs) (at_ n : Nat) (hle : at_ + n ≤ xs.length) :
    Sl w (if c = at_ then ao else ao.map (·.add (at_ * 1))) (c - at_) ((xs.drop at_).take n) := by
  have hl : ((xs.drop at_).take n).length = n := by rw [List.length_take, List.length_drop]; omega
  have := h.le
  have := h.big
  refine ⟨?_, by rw [hl]; omega, by omega, ?_, (h.bs.drop _).take _⟩
  · by_cases hn : n = 0
    · subst hn; exact .inl (by simp)
    · rw [if_neg (by omega)]
      rcases h.src with h0 | ⟨b, off, rfl, hc⟩
      · rw [h0] at hle; simp at hle; omega
      · refine .inr ⟨b, off + at_, by simp [Addr.add], fun j hj => ?_⟩
        rw [hl] at hj
        rw [Nat.add_assoc, hc (at_ + j) (by omega)]
        simp [List.getD, hj]
  · intro e
    by_cases hc : c = at_
    · omega
    · rw [if_neg hc] at e
      have : ao = none := by simpa using e
      have := h.nil this
      omega

def u8s (l : List Nat) : List Value := l.map fun x : Nat => Value.int .u8 (x : Int)
theorem u8s_len (l : List Nat) : (u8s l).length = l.length := by simp [u8s]
theorem u8s_one (l : List Nat) : ∀ u ∈ u8s l, u.oneCell' = true := by
  intro u hu
  obtain ⟨_, _, rfl⟩ := List.mem_map.1 hu
  rfl
theorem u8s_at (l : List Nat) (j : Nat) (h : j < l.length) : (u8s l)[j]? = some (.int .u8 ((l.getD j 0 : Nat) : Int)) := by simp [u8s, h, List.getD]
theorem u8s_app (a b : List Nat) : u8s a ++ u8s b = u8s (a ++ b) := by simp [u8s]

/-! ### Append onto a row of the call's own -/
theorem own_shape' {w : World} {base : Nat} {e : TypeId} {size : Nat} {v : Value} {n : Nat} {xs : List Value} (h : w.ownsRow base e size v n xs) : ∃ a c, v = .slice a n c := by
  rcases h.2 with ⟨rfl, rfl⟩ | ⟨g, cap, cur, rfl, _⟩
  · exact ⟨_, _, rfl⟩
  · exact ⟨_, _, rfl⟩
theorem own_base {w : World} {base base' : Nat} {e : TypeId} {size : Nat} {v : Value} {n : Nat} {xs : List Value} (h : w.ownsRow base e size v n xs) (hb : base' ≤ base) : w.ownsRow base' e size v n xs := by
  refine ⟨h.1, ?_⟩
  rcases h.2 with h2 | ⟨g, cap, cur, hv, hg, r⟩
  · exact .inl h2
  · exact .inr ⟨g, cap, cur, hv, Nat.le_trans hb hg, r⟩
theorem ownsRow_touch {S : Nat → Prop} {w w' : World} {base : Nat} {e : TypeId} {size : Nat} {v : Value} {n : Nat} {xs : List Value} (h : w.ownsRow base e size v n xs) (ht : Touch S w w') (hs : ∀ k, v.ownBlock = some k → ¬ S k) : w'.ownsRow base e size v n xs := by
  refine ⟨h.1, ?_⟩
  rcases h.2 with hn | ⟨g, cap, cur, rfl, hb, hgg, rest⟩
  · exact .inl hn
  · refine .inr ⟨g, cap, cur, rfl, hb, ?_, rest⟩
    rw [ht.block g (Array.getElem?_eq_some_iff.1 hgg).1 (hs g (by simp [Value.ownBlock]))]
    exact hgg
theorem ownsRow_below {w w' : World} {base : Nat} {e : TypeId} {size : Nat} {v : Value} {n : Nat} {xs : List Value} (h : w.ownsRow base e size v n xs) (hb : Below w.heap.size w w') : w'.ownsRow base e size v n xs :=
  ownsRow_touch h (Touch.of_below (S := fun _ => False) hb) fun _ _ h => h
theorem own_empty (w : World) (e size : Nat) : (w.alloc (.cells #[] e)).ownsRow w.heap.size e size (.slice (some ⟨w.heap.size, 0, none⟩) 0 0) 0 [] :=
  World.ownsRow_made w #[] 0 (Nat.le_refl _) (Nat.zero_le _) (by simp)

/-- Behind an append: the row is owned; only the old row may have been written; the new row is the old one or a new one. -/
structure Apd (w : World) (base e sz : Nat) (v : Value) (n : Nat) (xs : List Value) (v' : Value) (w' : World) : Prop where
  own : w'.ownsRow base e sz v' n xs
  touch : Touch (fun k => v.ownBlock = some k) w w'
  row : ∀ k, v'.ownBlock = some k → v.ownBlock = some k ∨ w.heap.size ≤ k

theorem Apd.trans {a b c : World} {base e sz n m : Nat} {v1 v2 v3 : Value} {xs ys : List Value} (h : Apd a base e sz v1 n xs v2 b) (k : Apd b base e sz v2 m ys v3 c) : Apd a base e sz v1 m ys v3 c := by
  refine ⟨k.own, h.touch.trans' k.touch fun i hi hlt => ?_, fun i hi => ?_⟩
  · rcases h.row i hi with h1 | h1
    · exact h1
    · omega
  · rcases k.row i hi with h1 | h1
    · exact h.row i h1
    · right; have := h.touch.size; omega
theorem Apd.alloc {a b : World} {base e sz n : Nat} {v1 v2 : Value} {xs : List Value} {o : Obj} (k : Apd (a.alloc o) base e sz v1 n xs v2 b) : Apd a base e sz v1 n xs v2 b :=
  ⟨k.own, ((Touch.refl _ a).alloc o).trans k.touch, fun i hi => by
    rcases k.row i hi with h | h
    · exact .inl h
    · right; simp at h; omega⟩
theorem Apd.below {a b : World} {base e sz n : Nat} {v1 v2 : Value} {xs ys : List Value} {m : Nat} (k : Apd a base e sz v1 n xs v2 b) (h : a.ownsRow base e sz v1 m ys) (hb : base ≤ a.heap.size) : Below base a b :=
  k.touch.below hb fun i hi => (h.lt i hi).1

/-- A slice value whose cells are these, m elements. -/
def CellsAt (w : World) (sv : Value) (m : Nat) (ys : List Value) : Prop :=
  (sv = .slice none 0 0 ∧ m = 0 ∧ ys = []) ∨ ∃ ad c, sv = .slice (some ad) m c ∧ ∀ j u, ys[j]? = some u → w.cell? (ad.add j) = some u

/-- What append wants to know of a slice type. -/
structure AT (t e : Nat) (z : Value) (size bytes : Nat) : Prop where
  hu : Tryd.prog.underlying t = some (.slice e)
  info : (Tryd.prog.info? e).map (fun i => (i.zero, i.size, i.bytes)) = some (some z, size, bytes)
  zs : z.cells.size = size
  pos : 0 < size

theorem run_append_x {t e : Nat} {z : Value} {size bytes : Nat} (T : AT t e z size bytes) (w : World) {base : Nat} {v sv : Value} {n m : Nat} {xs ys : List Value} (ty : TypeId) (hown : w.ownsRow base e size v n xs) (hs : CellsAt w sv m ys)
    (hyl : ys.length = m * size) (h1 : ∀ u ∈ ys, u.oneCell' = true) (hbase : base ≤ w.heap.size) (hl : n + m ≤ 140737488355328) (hby : (n + m) * bytes ≤ 140737488355328) :
    ∃ v' w', (Builtin.append_ #[t, t] ty #[v, sv]).run Tryd.prog w = .ok v' w' ∧ Apd w base e size v (n + m) (xs ++ ys) v' w' := by
  obtain ⟨i0, hi, hz0, hz1, hz2⟩ := info_parts T.info
  rcases hs with ⟨rfl, rfl, rfl⟩ | ⟨ad, c, rfl, hcell⟩
  · refine ⟨v, w, run_append_owned_none w base t ty e i0 size T.hu hi v n xs hown, ?_, Touch.refl _ _, fun k hk => .inl hk⟩
    simpa using hown
  · rcases hown.2 with ⟨rfl, hn0⟩ | ⟨g, cap, cur, rfl, hbg, hh, hnc, hcm, hcs, htake⟩
    · subst hn0
      have hx : xs = [] := List.eq_nil_of_length_eq_zero (by rw [hown.1, Nat.zero_mul])
      subst hx
      obtain ⟨v', w', hr, ho, hg, _⟩ := run_append_own (P := Tryd.prog) w w.heap.size t ty e i0 z size bytes T.hu hi hz0 hz1 hz2 T.zs T.pos (.slice none 0 0) 0 [] (World.ownsRow_nil _ _ _ _) ad m c ys hyl hcell h1 (by unfold maxLen; omega) hby (Nat.le_refl _)
      exact ⟨v', w', hr, own_base ho hbase, (Touch.refl _ w).grown hg fun k hk => by simp [Value.ownBlock] at hk, fun k hk => .inr (ho.lt k hk).1⟩
    · by_cases hroom : n + m ≤ cap
      · obtain ⟨w', hr, ho, hg⟩ := run_append_fits (P := Tryd.prog) w base t ty e i0 size T.hu hi hz1 g n cap xs hown ad m c ys hyl hcell h1 hroom
        exact ⟨_, w', hr, ho, (Touch.refl _ w).grown hg fun k hk => .inl (by cases hk; simp [Value.ownBlock]), fun k hk => .inl (by simpa [Value.ownBlock] using hk)⟩
      · obtain ⟨v', w', hr, ho, hg⟩ := run_append_arg_grows (P := Tryd.prog) w t ty e i0 z size bytes T.hu hi hz0 hz1 hz2 T.zs T.pos ⟨g, 0, none⟩ n cap xs hown.1 (hown.cells (by simp [Value.ownBlock])) ad m c ys hyl hcell (by omega) (by unfold maxLen; omega) hby
        exact ⟨v', w', hr, own_base ho hbase, (Touch.refl _ w).grown hg (fun k hk => by cases hk), fun k hk => .inr (ho.lt k hk).1⟩

theorem wpList_append_x {t e : Nat} {z : Value} {size bytes : Nat} (T : AT t e z size bytes) {w : World} {ops : Array Oper} {rest : List Oper} {o : Oper} {a : Act} {Q : Exit → Act → World → Prop} (hgd : o.guard = none) (s x : Operand)
    (ho : o.op = .call { callee := .builtin .append, args := #[s, x], argTypes := #[t, t] })
    (base : Nat) (v sv : Value) (n m : Nat) (xs ys : List Value) (hs : a.eval s = v) (hx : a.eval x = sv) (hown : w.ownsRow base e size v n xs) (hsrc : CellsAt w sv m ys)
    (hyl : ys.length = m * size) (h1 : ∀ u ∈ ys, u.oneCell' = true) (hbase : base ≤ w.heap.size) (hl : n + m ≤ 140737488355328) (hby : (n + m) * bytes ≤ 140737488355328)
    (h : ∀ ao c w', Apd w base e size v (n + m) (xs ++ ys) (.slice ao (n + m) c) w' → wpList Tryd.prog ops Q rest (a.put o.dst (.slice ao (n + m) c)) w') : wpList Tryd.prog ops Q (o :: rest) a w := by
  refine wpList_plain hgd fun K hK => ?_
  obtain ⟨v', w', hrun, hA⟩ := run_append_x T w o.type hown hsrc hyl h1 hbase hl hby
  obtain ⟨ao, c, rfl⟩ := own_shape' hA.own
  unfold Oper.wp
  simp [execOp, ho, resolve, invoke, builtin, hs, hx, hrun, Result.andThen]
  exact hK _ _ (by simpa using h ao c w' hA)

theorem at22 : AT 22 5 (.int .u8 0) 1 1 := ⟨by kernel_rfl, by kernel_rfl, rfl, by omega⟩
theorem Sl.cells {w : World} {ao : Option Addr} {c : Nat} {xs : List Nat} (h : Sl w ao c xs) : CellsAt w (.slice ao xs.length c) xs.length (u8s xs) := by
  cases ao with
  | none =>
    have := h.nil rfl
    have := h.le
    have hx : xs = [] := List.eq_nil_of_length_eq_zero (by omega)
    subst hx
    subst c
    exact .inl ⟨rfl, rfl, rfl⟩
  | some ad =>
    refine .inr ⟨ad, c, rfl, fun j u hu => ?_⟩
    have hj : j < xs.length := by
      have := (List.getElem?_eq_some_iff.1 hu).1
      rwa [u8s_len] at this
    rcases h.src with h0 | ⟨b, off, e, hc⟩
    · rw [h0] at hj; simp at hj
    · obtain rfl := Option.some.inj e
      rw [Addr.add_lit, hc j hj, ← hu, u8s_at xs j hj]

/-- What is owned is a slice of these bytes. -/
theorem own_sl {w : World} {base : Nat} {ao : Option Addr} {c : Nat} {xs : List Nat} (h : w.ownsRow base 5 1 (.slice ao xs.length c) xs.length (u8s xs)) (hb : Bs xs) : Sl w ao c xs := by
  rcases h.2 with ⟨e, h0⟩ | ⟨g, cap, cur, e, hbg, hh, hnc, hcm, hcs, htake⟩
  · simp at e
    have hx := List.eq_nil_of_length_eq_zero h0
    subst hx
    obtain ⟨rfl, _, rfl⟩ := e
    exact Sl.none_ w
  · simp only [Value.slice.injEq] at e
    obtain ⟨rfl, _, rfl⟩ := e
    refine ⟨.inr ⟨g, 0, rfl, fun j hj => ?_⟩, hnc, hcm, (fun e => by cases e), hb⟩
    rw [Nat.zero_add, World.ownsRow.cellAt h j (by omega), u8s_at xs j hj]
end Go.Proofs.YtmnkdnlmpgmdgaaDoor
