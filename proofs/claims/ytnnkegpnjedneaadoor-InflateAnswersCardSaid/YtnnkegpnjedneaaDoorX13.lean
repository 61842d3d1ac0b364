import Derived.Test.YtnnkegpnjedneaaDoorX10
import Derived.Test.YtnnkegpnjedneaaDoorX9
import Derived.Test.YtnnkegpnjedneaaDoorX7
import Derived.StillTailTactics
/-
  The reference's run of bits in memory; what a call of it does.
-/
namespace Go.Proofs.YtnnkegpnjedneaaDoor
open Go.RowKit
set_option maxRecDepth 100000

/-- The cells of a run. -/
def qc (rv ov : Value) (lim er nb : Nat) (s : Sta) : Array Value :=
  #[rv, .int .i64 (s.at_ : Nat), ov, .int .i64 (lim : Nat), .int .i64 (er : Nat), .int .i64 (s.steps : Nat), .int .i64 (nb : Nat)]
/-- A run stands at p, so far; er: its fault, or nought. -/
structure QS (B p : Nat) (rv : Value) (bs : List Nat) (lim nb er : Nat) (w : World) (ov : Value) (s : Sta) : Prop where
  blk : Blk w p 57 (qc rv ov lim er nb s)
  row : w.ownsRow B 5 1 rv (8 * bs.length) (u8s (rbits bs (8 * bs.length)))
  own : w.ownsRow B 5 1 ov s.out.length (u8s s.out)
  ne : ∀ k, ov.ownBlock = some k → rv.ownBlock ≠ some k
  hp : B ≤ p
  len : bs.length ≤ 1000
  lim_ : lim ≤ 2000000
  in_ : s.at_ ≤ 8 * bs.length
  out : s.out.length ≤ lim
  steps : s.steps ≤ s.at_
  nb_ : nb ≤ 100000
  er_ : er ≤ 15
  bytes : Bs s.out
  bsb : Bs bs
/-- The blocks of a run that change. -/
def QT (p : Nat) (ov : Value) (k : Nat) : Prop := k = p ∨ ov.ownBlock = some k
structure Qv (p : Nat) (w : World) (ov : Value) (w' : World) (ov' : Value) : Prop where
  touch : Touch (QT p ov) w w'
  row : ∀ k, ov'.ownBlock = some k → ov.ownBlock = some k ∨ w.heap.size ≤ k
theorem Qv.refl (p : Nat) (w : World) (ov : Value) : Qv p w ov w ov := ⟨Touch.refl _ _, fun _ h => .inl h⟩
theorem Qv.trans {p : Nat} {a b c : World} {o1 o2 o3 : Value} (h : Qv p a o1 b o2) (k : Qv p b o2 c o3) : Qv p a o1 c o3 := by
  refine ⟨h.touch.trans' k.touch ?_, fun i hi => ?_⟩
  · rintro i (hi | hi) hlt
    · exact .inl hi
    · rcases h.row i hi with hi | hi
      · exact .inr hi
      · omega
  · rcases k.row i hi with hi | hi
    · exact h.row i hi
    · exact .inr (Nat.le_trans h.touch.size hi)

section
variable {B p : Nat} {rv : Value} {bs : List Nat} {lim nb er : Nat} {w : World} {ov : Value} {s : Sta}
theorem QS.neP (h : QS B p rv bs lim nb er w ov s) : (∀ k, ov.ownBlock = some k → k ≠ p) ∧ (∀ k, rv.ownBlock = some k → k ≠ p) := by
  have hb := h.blk
  constructor
  · intro k hk
    obtain ⟨cs', hc⟩ := own_ty h.own hk
    rintro rfl
    rw [Blk, hc] at hb
    simp at hb
  · intro k hk
    obtain ⟨cs', hc⟩ := own_ty h.row hk
    rintro rfl
    rw [Blk, hc] at hb
    simp at hb
theorem QS.base (h : QS B p rv bs lim nb er w ov s) : ∀ k, QT p ov k → B ≤ k := by
  rintro k (rfl | hk)
  · exact h.hp
  · exact (h.own.lt k hk).1
theorem QS.top (h : QS B p rv bs lim nb er w ov s) : ∀ k, QT p ov k → k < w.heap.size := by
  rintro k (rfl | hk)
  · exact h.blk.lt
  · exact (h.own.lt k hk).2
theorem QS.size (h : QS B p rv bs lim nb er w ov s) : B ≤ w.heap.size := Nat.le_trans h.hp (Nat.le_of_lt h.blk.lt)
theorem QS.below {w' : World} (h : QS B p rv bs lim nb er w ov s) (k : Touch (QT p ov) w w') : Below B w w' := k.below h.size h.base
theorem QS.shape (h : QS B p rv bs lim nb er w ov s) : ∃ ao c, ov = .slice ao s.out.length c := own_shape h.own
theorem QS.rshape (h : QS B p rv bs lim nb er w ov s) : ∃ ao c, rv = .slice ao (8 * bs.length) c := own_shape h.row

/-- The cells that a walk wants. -/
structure Qcs (w : World) (p : Nat) (rv ov : Value) (lim nb er : Nat) (s : Sta) : Prop where
  c0 : w.cell? ⟨p, 0, none⟩ = some rv
  c1 : w.cell? ⟨p, 1, none⟩ = some (.int .i64 (s.at_ : Nat))
  c2 : w.cell? ⟨p, 2, none⟩ = some ov
  c3 : w.cell? ⟨p, 3, none⟩ = some (.int .i64 (lim : Nat))
  c4 : w.cell? ⟨p, 4, none⟩ = some (.int .i64 (er : Nat))
  c5 : w.cell? ⟨p, 5, none⟩ = some (.int .i64 (s.steps : Nat))
  c6 : w.cell? ⟨p, 6, none⟩ = some (.int .i64 (nb : Nat))
  f1 : w.frozen? ⟨p, 1, none⟩ = false
  f2 : w.frozen? ⟨p, 2, none⟩ = false
  f4 : w.frozen? ⟨p, 4, none⟩ = false
  f5 : w.frozen? ⟨p, 5, none⟩ = false
  f6 : w.frozen? ⟨p, 6, none⟩ = false
theorem QS.cells (h : QS B p rv bs lim nb er w ov s) : Qcs w p rv ov lim nb er s :=
  ⟨(h.blk.cell 0).trans rfl, (h.blk.cell 1).trans rfl, (h.blk.cell 2).trans rfl, (h.blk.cell 3).trans rfl, (h.blk.cell 4).trans rfl, (h.blk.cell 5).trans rfl, (h.blk.cell 6).trans rfl, h.blk.free 1, h.blk.free 2, h.blk.free 4, h.blk.free 5, h.blk.free 6⟩

/-- A cell of the run itself. -/
theorem QS.set1 (h : QS B p rv bs lim nb er w ov s) (i : Nat) (u : Value) :
    (w.setCell ⟨p, i, none⟩ u).ownsRow B 5 1 rv (8 * bs.length) (u8s (rbits bs (8 * bs.length))) ∧ (w.setCell ⟨p, i, none⟩ u).ownsRow B 5 1 ov s.out.length (u8s s.out) ∧ Qv p w ov (w.setCell ⟨p, i, none⟩ u) ov := by
  have ht : Touch (fun k => k = p) w (w.setCell ⟨p, i, none⟩ u) := (Touch.refl _ w).setCell _ _ (.inl rfl)
  exact ⟨ownsRow_touch h.row ht fun k hk e => h.neP.2 k hk e, ownsRow_touch h.own ht fun k hk e => h.neP.1 k hk e, ht.mono fun k hk => .inl hk, fun _ x => .inl x⟩
theorem QS.setAt (h : QS B p rv bs lim nb er w ov s) (m : Nat) (h1 : s.at_ ≤ m) (h2 : m ≤ 8 * bs.length) {x : Int} (hx : x = (m : Int)) :
    QS B p rv bs lim nb er (w.setCell ⟨p, 1, none⟩ (.int .i64 x)) ov { s with at_ := m } ∧ Qv p w ov (w.setCell ⟨p, 1, none⟩ (.int .i64 x)) ov := by
  subst hx
  obtain ⟨k1, k2, k3⟩ := h.set1 1 (.int .i64 (m : Nat))
  exact ⟨⟨h.blk.setCell 1 _, k1, k2, h.ne, h.hp, h.len, h.lim_, h2, h.out, Nat.le_trans h.steps h1, h.nb_, h.er_, h.bytes, h.bsb⟩, k3⟩
theorem QS.setErr (h : QS B p rv bs lim nb er w ov s) (e : Nat) (he : e ≤ 15) :
    QS B p rv bs lim nb e (w.setCell ⟨p, 4, none⟩ (.int .i64 (e : Nat))) ov s ∧ Qv p w ov (w.setCell ⟨p, 4, none⟩ (.int .i64 (e : Nat))) ov := by
  obtain ⟨k1, k2, k3⟩ := h.set1 4 (.int .i64 (e : Nat))
  exact ⟨⟨h.blk.setCell 4 _, k1, k2, h.ne, h.hp, h.len, h.lim_, h.in_, h.out, h.steps, h.nb_, he, h.bytes, h.bsb⟩, k3⟩
theorem QS.setSteps (h : QS B p rv bs lim nb er w ov s) (m : Nat) (hm : m ≤ s.at_) {x : Int} (hx : x = (m : Int)) :
    QS B p rv bs lim nb er (w.setCell ⟨p, 5, none⟩ (.int .i64 x)) ov { s with steps := m } ∧ Qv p w ov (w.setCell ⟨p, 5, none⟩ (.int .i64 x)) ov := by
  subst hx
  obtain ⟨k1, k2, k3⟩ := h.set1 5 (.int .i64 (m : Nat))
  exact ⟨⟨h.blk.setCell 5 _, k1, k2, h.ne, h.hp, h.len, h.lim_, h.in_, h.out, hm, h.nb_, h.er_, h.bytes, h.bsb⟩, k3⟩
theorem QS.setBlocks (h : QS B p rv bs lim nb er w ov s) (m : Nat) (hm : m ≤ 100000) {x : Int} (hx : x = (m : Int)) :
    QS B p rv bs lim m er (w.setCell ⟨p, 6, none⟩ (.int .i64 x)) ov s ∧ Qv p w ov (w.setCell ⟨p, 6, none⟩ (.int .i64 x)) ov := by
  subst hx
  obtain ⟨k1, k2, k3⟩ := h.set1 6 (.int .i64 (m : Nat))
  exact ⟨⟨h.blk.setCell 6 _, k1, k2, h.ne, h.hp, h.len, h.lim_, h.in_, h.out, h.steps, hm, h.er_, h.bytes, h.bsb⟩, k3⟩
theorem QS.grow {w' : World} (h : QS B p rv bs lim nb er w ov s) (k : Below w.heap.size w w') : QS B p rv bs lim nb er w' ov s ∧ Qv p w ov w' ov := by
  have ht : Touch (fun _ => False) w w' := Touch.of_below k
  exact ⟨⟨h.blk.below k, ownsRow_touch h.row ht fun _ _ e => e, ownsRow_touch h.own ht fun _ _ e => e, h.ne, h.hp, h.len, h.lim_, h.in_, h.out, h.steps, h.nb_, h.er_, h.bytes, h.bsb⟩, ht.mono fun _ e => e.elim, fun _ x => .inl x⟩
theorem QS.drewN (h : QS B p rv bs lim nb er w ov s) (q : Nat) : QS B p rv bs lim nb er (w.drewN q) ov s ∧ Qv p w ov (w.drewN q) ov := h.grow (below_drewN (Below.refl _ _) q)
theorem QS.drew (h : QS B p rv bs lim nb er w ov s) : QS B p rv bs lim nb er w.drew ov s ∧ Qv p w ov w.drew ov := h.grow (below_drew (Below.refl _ _))
/-- More bytes, in a row that is an old one or a new one. -/
theorem QS.setOut {w1 : World} {ov' : Value} {xs : List Nat} (h : QS B p rv bs lim nb er w ov s) (hA : Apd w B ov xs ov' w1) (hx : xs.length ≤ lim) (hb' : Bs xs) :
    QS B p rv bs lim nb er (w1.setCell ⟨p, 2, none⟩ ov') ov' { s with out := xs } ∧ Qv p w ov (w1.setCell ⟨p, 2, none⟩ ov') ov' := by
  obtain ⟨n1, n2⟩ := h.neP
  have hp := h.blk.lt
  have hT1 : Touch (QT p ov) w w1 := hA.touch.mono fun i hi => .inr hi
  have hT : Touch (QT p ov) w (w1.setCell ⟨p, 2, none⟩ ov') := hT1.setCell _ _ (.inl (.inl rfl))
  have ht2 : Touch (fun k => k = p) w1 (w1.setCell ⟨p, 2, none⟩ ov') := (Touch.refl _ w1).setCell _ _ (.inl rfl)
  have hb1 : Blk w1 p 57 (qc rv ov lim er nb s) := h.blk.touch hA.touch fun e => n1 _ e rfl
  have hr1 := ownsRow_touch h.row hA.touch fun k hk e => h.ne k e hk
  refine ⟨⟨hb1.setCell 2 _, ownsRow_touch hr1 ht2 fun k hk e => n2 k hk e, ownsRow_touch hA.own ht2 fun i hi e => ?_, fun k hk hgk => ?_, h.hp, h.len, h.lim_, h.in_, hx, h.steps, h.nb_, h.er_, hb', h.bsb⟩, hT, hA.row⟩
  · rcases hA.row i hi with h1 | h1
    · exact n1 i h1 e
    · omega
  · rcases hA.row k hk with h1 | h1
    · exact h.ne k h1 hgk
    · have := (h.row.lt k hgk).2
      omega
/-- A byte more, behind the box of the byte. -/
theorem QS.mid {w1 : World} {ov' : Value} {xs : List Nat} {o : Obj} (h : QS B p rv bs lim nb er w ov s) (hA : Apd (w.alloc o) B ov xs ov' w1) (hx : xs.length ≤ lim) (hb' : Bs xs) :
    w1.cell? ⟨p, 2, none⟩ = some ov ∧ w1.frozen? ⟨p, 2, none⟩ = false ∧ QS B p rv bs lim nb er (w1.setCell ⟨p, 2, none⟩ ov') ov' { s with out := xs } ∧ Qv p w ov (w1.setCell ⟨p, 2, none⟩ ov') ov' := by
  obtain ⟨h1, k1⟩ := h.grow ((Below.refl _ w).alloc (Nat.le_refl _) o)
  have hb1 : Blk w1 p 57 (qc rv ov lim er nb s) := h1.blk.touch hA.touch fun e => h1.neP.1 _ e rfl
  obtain ⟨h2, k2⟩ := h1.setOut hA hx hb'
  exact ⟨(hb1.cell 2).trans rfl, hb1.free 2, h2, k1.trans k2⟩
theorem QS.midD {w1 : World} {ov' : Value} {xs : List Nat} {o : Obj} (h : QS B p rv bs lim nb er w ov s) (hA : Apd (w.alloc o).drew B ov xs ov' w1) (hx : xs.length ≤ lim) (hb' : Bs xs) :
    w1.cell? ⟨p, 2, none⟩ = some ov ∧ w1.frozen? ⟨p, 2, none⟩ = false ∧ QS B p rv bs lim nb er (w1.setCell ⟨p, 2, none⟩ ov') ov' { s with out := xs } ∧ Qv p w ov (w1.setCell ⟨p, 2, none⟩ ov') ov' := by
  obtain ⟨h1, k1⟩ := h.grow (below_drew ((Below.refl _ w).alloc (Nat.le_refl _) o))
  have hb1 : Blk w1 p 57 (qc rv ov lim er nb s) := h1.blk.touch hA.touch fun e => h1.neP.1 _ e rfl
  obtain ⟨h2, k2⟩ := h1.setOut hA hx hb'
  exact ⟨(hb1.cell 2).trans rfl, hb1.free 2, h2, k1.trans k2⟩
/-- A cell of the bytes so far. -/
theorem QS.byte (h : QS B p rv bs lim nb er w ov s) (k : Nat) (hk : k < s.out.length) : ∃ b c, ov = .slice (some ⟨b, 0, none⟩) s.out.length c ∧ s.out.length ≤ c ∧ w.cell? ⟨b, k, none⟩ = some (.int .u8 (s.out.getD k 0 : Nat)) := by
  rcases h.own.2 with ⟨_, hl⟩ | ⟨g', cap, cur, rfl, _, hh, hc, _⟩
  · omega
  · exact ⟨g', cap, rfl, hc, row_cell h.own k hk⟩
/-- A bit. -/
theorem QS.bit (h : QS B p rv bs lim nb er w ov s) (k : Nat) (hk : k < 8 * bs.length) : ∃ b c, rv = .slice (some ⟨b, 0, none⟩) (8 * bs.length) c ∧ 8 * bs.length ≤ c ∧ w.cell? ⟨b, k, none⟩ = some (.int .u8 (num bs / 2 ^ k % 2 : Nat)) := by
  have hr := h.row
  have hl : (rbits bs (8 * bs.length)).length = 8 * bs.length := rbits_len _ _
  rcases hr.2 with ⟨_, hl0⟩ | ⟨g', cap, cur, rfl, _, hh, hc, _⟩
  · omega
  · refine ⟨g', cap, rfl, hc, ?_⟩
    have := row_cell (bs := rbits bs (8 * bs.length)) (w := w) (base := B) (g := g') (cap := cap) (by rw [hl]; exact hr) k (by rw [hl]; exact hk)
    unfold byt at this
    rw [rbits_at _ _ _ hk] at this
    exact this

/-- What a call of it leaves. -/
def QTo {α : Type} (B p : Nat) (rv : Value) (bs : List Nat) (lim nb : Nat) (w : World) (ov : Value) (enc : α → Value) (bad : Value) (r : Res α) (e : Ending) (w' : World) : Prop :=
  match r with
  | .bad er => e = .returned bad ∧ ∃ ov' s', QS B p rv bs lim nb er w' ov' s' ∧ Qv p w ov w' ov'
  | .ok a t => e = .returned (enc a) ∧ ∃ ov', QS B p rv bs lim nb 0 w' ov' t ∧ Qv p w ov w' ov'
theorem QTo.bad {α : Type} {enc : α → Value} {bad : Value} {R : Res α} {er : Nat} {w' : World} {ov' : Value} {s' : Sta} (e : R = .bad er) (h : QS B p rv bs lim nb er w' ov' s') (m : Qv p w ov w' ov') : QTo B p rv bs lim nb w ov enc bad R (.returned bad) w' := by
  subst e; exact ⟨rfl, ov', s', h, m⟩
theorem QTo.ok {α : Type} {enc : α → Value} {bad : Value} {R : Res α} {a : α} {t : Sta} {w' : World} {ov' : Value} (e : R = .ok a t) (h : QS B p rv bs lim nb 0 w' ov' t) (m : Qv p w ov w' ov') : QTo B p rv bs lim nb w ov enc bad R (.returned (enc a)) w' := by
  subst e; exact ⟨rfl, ov', h, m⟩

/-- A code that stays while the run goes on. -/
def Cod (w : World) (p : Nat) (ov : Value) (pc : Nat) (ls : List Nat) : Prop := ∀ w', Touch (QT p ov) w w' → RAt w' pc ls
theorem Cod.on {w' : World} {ov' : Value} {pc : Nat} {ls : List Nat} (h : Cod w p ov pc ls) (m : Qv p w ov w' ov') : Cod w' p ov' pc ls :=
  fun w2 k => h w2 (m.trans ⟨k, fun _ x => .inl x⟩ : Qv p w ov w2 ov').touch
theorem Cod.at_ {pc : Nat} {ls : List Nat} (h : Cod w p ov pc ls) : RAt w pc ls := h w (Touch.refl _ _)
end
end Go.Proofs.YtnnkegpnjedneaaDoor

/-
  fail, number, put and symbol of the reference's run.
-/
namespace Go.Proofs.YtnnkegpnjedneaaDoor
open Go.RowKit
set_option maxRecDepth 100000

section
variable {B p : Nat} {rv : Value} {bs : List Nat} {lim nb er : Nat} {w : World} {ov : Value} {s : Sta}

theorem fail_yes (h : QS B p rv bs lim nb 0 w ov s) (x : Nat) (hx : x ≤ 15) :
    Calls Tryd.prog 48 #[.pointer (some ⟨p, 0, none⟩), .int .i64 (x : Nat)] w fun e w' => e = .returned (.tuple #[]) ∧ QS B p rv bs lim nb x w' ov s ∧ Qv p w ov w' ov := by
  have c4 := h.cells.c4
  have f4 := h.cells.f4
  have H := Lib.hid (h.setErr x hx)
  clear h
  go_enter Tryd.func48, Tryd.ntmps48
  go_wp2
  go_end0
  exact ⟨rfl, H.out⟩
theorem fail_idle (h : QS B p rv bs lim nb er w ov s) (her : er ≠ 0) (x : Int) :
    Calls Tryd.prog 48 #[.pointer (some ⟨p, 0, none⟩), .int .i64 x] w fun e w' => e = .returned (.tuple #[]) ∧ w = w' := by
  have c4 := h.cells.c4
  have d : ((er : Int) == 0) = false := by simp; omega
  clear h
  go_enter Tryd.func48, Tryd.ntmps48
  go_wp2
  go_end0
  exact ⟨rfl, rfl⟩

theorem pk_zero (bs : List Nat) (a : Nat) : pk bs a 0 = 0 := by unfold pk; simp [Nat.mod_one]
theorem pk_succ (bs : List Nat) (a i : Nat) : pk bs a (i + 1) = pk bs a i + num bs / 2 ^ (a + i) % 2 * 2 ^ i := by
  unfold pk
  rw [Nat.mod_pow_succ, Nat.div_div_eq_div_mul, ← Nat.pow_add, Nat.mul_comm]

/-- A number behind a fault. -/
theorem num_idle (h : QS B p rv bs lim nb er w ov s) (her : er ≠ 0) (n : Int) :
    Calls Tryd.prog 43 #[.pointer (some ⟨p, 0, none⟩), .int .i64 n] w fun e w' => e = .returned (.int .i64 0) ∧ ∃ q, w' = w.drewN q := by
  have c4 := h.cells.c4
  have d : ((er : Int) != 0) = true := by simp; omega
  have HF := Lib.hid fun q => (h.drewN q).1
  clear h
  go_enter Tryd.func43, Tryd.ntmps43
  go_wp2
  go_quiet (fail)
  go_wp2_with fail
  refine (fail_idle (HF.out _) her 15).mono ?_
  rintro e w3 ⟨rfl, rfl⟩
  go_wp2
  go_ret
  exact ⟨rfl, _, rfl⟩

set_option maxHeartbeats 1600000 in
/-- The next number. -/
theorem num_any (h : QS B p rv bs lim nb 0 w ov s) (n : Nat) (hn : n ≤ 16) :
    Calls Tryd.prog 43 #[.pointer (some ⟨p, 0, none⟩), .int .i64 n] w (QTo B p rv bs lim nb w ov nv (.int .i64 0) (rdN bs n s)) := by
  have c0 := h.cells.c0
  have c1 := h.cells.c1
  have c4 := h.cells.c4
  have f1 := h.cells.f1
  obtain ⟨ro, rc, rfl⟩ := h.rshape
  obtain ⟨L, hL⟩ : ∃ L, L = 8 * bs.length := ⟨_, rfl⟩
  obtain ⟨A, hA⟩ : ∃ A, A = s.at_ := ⟨_, rfl⟩
  have hLb : L ≤ 8000 := by have := h.len; omega
  have hin : A ≤ L := by have := h.in_; omega
  rw [← hL] at c0
  rw [← hA] at c1
  have H := Lib.hid h
  have HL := Lib.hid hL
  have HA := Lib.hid hA
  by_cases hle : A + n ≤ L
  · have hr : rdN bs n s = .ok (pk bs A n) { s with at_ := A + n } := by unfold rdN; rw [if_pos (by omega), hA]
    have HR := Lib.hid hr
    have d1 : decide ((L : Int) < A + n) = false := by simp; omega
    have d2 : decide (L < A + n) = false := by simp; omega
    have HB := Lib.hid fun k (hk : k < L) => h.bit k (by omega)
    have HS := Lib.hid fun q => (h.drewN q).1.setAt (A + n) (by omega) (by omega) (x := (A : Int) + n) (by simp)
    have HM := Lib.hid fun q => (h.drewN q).2
    have HP := Lib.hid (fun i => pk_succ bs A i)
    rw [← hL] at HB
    clear h hL hA hr
    go_enter Tryd.func43, Tryd.ntmps43
    go_wp2
    go_quiet (fail)
    go_wp2
    go_loopw [5, 6] (fun v5 v6 wr => ∃ i q : Nat, i ≤ n ∧ v5 = .int .i64 (pk bs A i : Nat) ∧ v6 = .int .i64 (i : Nat) ∧ wr = w.drewN q) (fun _ v6 _ => n - (intOf v6).toNat)
    case atStart => exact ⟨0, _, Nat.zero_le _, by rw [pk_zero]; rfl, rfl, rfl⟩
    case round =>
      obtain ⟨i, q, hi, rfl, rfl, rfl⟩ := hrel
      have hV := pk_lt bs A i
      have hV2 : pk bs A i < 65536 := Nat.lt_of_lt_of_le hV (Nat.le_trans (Nat.pow_le_pow_right (by omega) (Nat.le_trans hi hn)) (by decide : 2 ^ 16 ≤ 65536))
      by_cases hlt : i < n
      · have hlt' : (i : Int) < n := by omega
        obtain ⟨b1, cc, he, _, g1⟩ := HB.out (A + i) (by omega)
        simp only [Value.slice.injEq] at he
        obtain ⟨rfl, _, rfl⟩ := he
        have hps := HP.out i
        obtain ⟨x, hx⟩ : ∃ x, x = num bs / 2 ^ (A + i) % 2 := ⟨_, rfl⟩
        obtain ⟨V, hVe⟩ : ∃ V, V = pk bs A i := ⟨_, rfl⟩
        have hx2 : x ≤ 1 := by rw [hx]; omega
        obtain ⟨y, hy⟩ : ∃ y, x * 2 ^ i = y := ⟨_, rfl⟩
        have hy2 : y ≤ 65536 := by
          rw [← hy]
          exact Nat.le_trans (Nat.mul_le_mul hx2 (Nat.pow_le_pow_right (by omega) (Nat.le_trans hi hn))) (by decide)
        rw [← hx, ← hVe, hy] at hps
        rw [← hx] at g1
        rw [← hVe] at hV2 ⊢
        have HPS := Lib.hid hps
        have q3 : (x : Int) * 2 ^ i = y := by rw [← hy]; simp
        have e1 : IntKind.i64.wrap ((A : Int) + i) = (A : Int) + i := by rw [IntKind.wrap_i64]; omega
        have e2 : (0 : Int) ≤ (A : Int) + i := by omega
        have e3 : ((A : Int) + i).toNat = A + i := by omega
        have e4 : (A : Int) + i < L := by omega
        clear hx hVe hy hV hps
        go_wp2
        go_quiet (fail)
        go_wp2
        go_roundw
        case rel => exact ⟨i + 1, _, by omega, by rw [HPS.out]; go_num, by go_num, rfl⟩
        case measure => simp [intOf]; omega
      · have hi' : i = n := by omega
        subst hi'
        obtain ⟨V, hVe⟩ : ∃ V, V = pk bs A i := ⟨_, rfl⟩
        have HV := Lib.hid hVe.symm
        rw [← hVe] at hV2 ⊢
        clear hVe hV hlt
        go_wp2
        go_ret
        refine QTo.ok (enc := nv) (by rw [HR.out, HV.out]) (HS.out q).1 ((HM.out q).trans (HS.out q).2)
  · have hr : rdN bs n s = .bad 15 := by unfold rdN; rw [if_neg (by omega)]
    have HR := Lib.hid hr
    have d1 : (L : Int) < A + n := by omega
    have HS := Lib.hid fun q => h.drewN q
    clear h hL hA hr hle
    go_enter Tryd.func43, Tryd.ntmps43
    go_wp2
    go_quiet (fail)
    go_wp2_with fail
    refine (fail_yes (HS.out _).1 15 (by omega)).mono ?_
    rintro e w3 ⟨rfl, h3, m3⟩
    have H3 := Lib.hid h3
    have M3 := Lib.hid m3
    clear h3 m3
    go_wp2
    go_ret
    exact QTo.bad HR.out H3.out ((HS.out _).2.trans M3.out)

/-- A byte more, where there is room. -/
theorem rput_yes (h : QS B p rv bs lim nb 0 w ov s) (c : Nat) (hc : c < 256) (hr : s.out.length < lim) :
    Calls Tryd.prog 57 #[.pointer (some ⟨p, 0, none⟩), .int .u8 (c : Nat)] w fun e w' => e = .returned (.tuple #[]) ∧ ∃ ov', QS B p rv bs lim nb 0 w' ov' { s with out := s.out ++ [c] } ∧ Qv p w ov w' ov' := by
  have c2 := h.cells.c2
  have c3 := h.cells.c3
  have c4 := h.cells.c4
  obtain ⟨ao, cc, rfl⟩ := h.shape
  obtain ⟨xs, hxs⟩ : ∃ xs, xs = s.out := ⟨_, rfl⟩
  have hl := h.lim_
  have d1 : decide ((lim : Int) ≤ s.out.length) = false := by simp; omega
  have d2 : decide (lim ≤ s.out.length) = false := by simp; omega
  rw [← hxs] at c2 d1 d2 hr
  have hj1 : (xs ++ [c]).length ≤ lim := by rw [List.length_append, List.length_singleton]; omega
  have hbV : Bs (xs ++ [c]) := by rw [hxs]; exact bs_snoc h.bytes hc
  have HX := Lib.hid h
  have HXS := Lib.hid hxs
  clear h hxs
  go_enter Tryd.func57, Tryd.ntmps57
  go_wp2
  go_quiet (fail)
  obtain ⟨h1, m1⟩ := HX.out.drewN nq
  generalize w.drewN nq = W at h1 m1 ⊢
  have c2' := h1.cells.c2
  have c4' := h1.cells.c4
  rw [← HXS.out] at c2'
  have HOWN : Hid (W.ownsRow B 5 1 (.slice ao xs.length cc) xs.length (u8s xs)) := Lib.hid (by rw [HXS.out]; exact h1.own)
  have hB := h1.size
  have X := Lib.hid h1
  have M := Lib.hid m1
  clear h1 m1 c2 c3 c4
  go_wp2_with (refine wpList_append_x rfl (.tmp 25) (.tmp 27) rfl B (.slice ao xs.length cc) (.slice (some ⟨W.heap.size, 0, none⟩) 1 1) xs [c] rfl rfl (World.ownsRow.alloc (w := W) HOWN.out _) (by_one W c rfl) (by simp; omega) (by simp; omega) ?_; intro ao2 cc2 w5 hA; obtain ⟨r1, r2, r3, r4⟩ := X.out.mid (by rw [← HXS.out]; exact hA) hj1 hbV; rw [List.length_append, List.length_singleton] at r3 r4; rw [← HXS.out] at r1; have R3 := Lib.hid r3; have R4 := Lib.hid r4; clear r3 r4 hA)
  go_end0
  refine ⟨rfl, _, ?_, M.out.trans R4.out⟩
  rw [← HXS.out]
  exact R3.out
/-- No room. -/
theorem rput_no (h : QS B p rv bs lim nb 0 w ov s) (c : Int) (hr : lim ≤ s.out.length) :
    Calls Tryd.prog 57 #[.pointer (some ⟨p, 0, none⟩), .int .u8 c] w fun e w' => e = .returned (.tuple #[]) ∧ QS B p rv bs lim nb 14 w' ov s ∧ Qv p w ov w' ov := by
  have c2 := h.cells.c2
  have c3 := h.cells.c3
  obtain ⟨ao, cc, rfl⟩ := h.shape
  have hl := h.lim_
  have ho := h.out
  obtain ⟨n, hn⟩ : ∃ n, n = s.out.length := ⟨_, rfl⟩
  have d1 : (lim : Int) ≤ n := by omega
  have X := Lib.hid fun q => (h.drewN q).1
  have M := Lib.hid fun q => (h.drewN q).2
  rw [← hn] at X M c2 hr ho ⊢
  clear h hn
  go_enter Tryd.func57, Tryd.ntmps57
  go_wp2
  go_quiet (fail)
  go_wp2_with fail
  refine (fail_yes (X.out _) 14 (by omega)).mono ?_
  rintro e w3 ⟨rfl, h3, m3⟩
  have c4 := h3.cells.c4
  have H3 := Lib.hid h3
  have M3 := Lib.hid m3
  clear h3 m3
  go_wp2
  go_end0
  exact ⟨rfl, H3.out, (M.out _).trans M3.out⟩

/-- What Next answers, for each reading. -/
def nx (ls : List Nat) : Res Nat → Value
  | .ok y _ => .tuple #[.int .i64 (y : Nat), .int .i64 (ln ls y : Nat), .int .i64 0]
  | .bad er => .tuple #[.int .i64 0, .int .i64 0, .int .i64 (er : Nat)]
theorem rnext_is {ls : List Nat} {W : World} {e : Ending} {w' : World} (H : Ok ls) (hb : Bs bs) (hat : s.at_ ≤ 8 * bs.length) (h : RNextTo ls (rbits bs (8 * bs.length)) s.at_ W e w') : e = .returned (nx ls (rdS bs ls s)) ∧ ∃ q, w' = W.drewN q := by
  obtain ⟨h, hq⟩ := h
  refine ⟨?_, hq⟩
  clear hq
  rw [rbits_len] at h
  have hA := ahead_lt bs s.at_
  rcases h with ⟨y, n, hn, h0, hf, hle, rfl⟩ | ⟨hno, hor, rfl⟩ | ⟨hany, hlt, rfl⟩
  · have hbeg := full_beg H rfl hat (by omega) hf (by omega)
    have hne : ¬ s.at_ = 8 * bs.length := by omega
    rw [rdS_some hne (findB_of H hbeg), if_pos (by omega)]
    simp [nx, hn]
  · have : rdS bs ls s = .bad 15 := by
      by_cases he : s.at_ = 8 * bs.length
      · unfold rdS; rw [if_pos he]
      · have hor' : anyFt ls (rbits bs (8 * bs.length)) s.at_ ls.length = true := hor.resolve_right (by omega)
        obtain ⟨t, ht, ht0, htf⟩ := (anyFt_iff _ _ _ _).1 hor'
        have hlong := hno t ht ht0 htf
        rw [rbits_len] at hlong
        have hroom := fits_room H hb rfl hat ht0 htf hlong
        rcases finds_some (p := 0) H hA with ⟨y, hbeg, _⟩ | ⟨hro, _⟩
        · have hfy := beg_fits H rfl hat hbeg
          have hly := hno y (ln_lt hbeg.1) hbeg.1 hfy
          rw [rbits_len] at hly
          rw [rdS_some he (findB_of H hbeg), if_neg (by omega)]
        · omega
    rw [this]; rfl
  · have : rdS bs ls s = .bad 10 := by
      refine rdS_none (by omega) ?_
      cases hfb : findB ls (ahead bs s.at_) with
      | none => rfl
      | some y =>
        have hbeg := findB_some hfb
        have hfy := beg_fits H rfl hat hbeg
        rw [(anyFt_iff _ _ _ _).2 ⟨y, ln_lt hbeg.1, hbeg.1, hfy⟩] at hany
        cases hany
    rw [this]; rfl
theorem rdS_er {ls : List Nat} {er : Nat} (hr : rdS bs ls s = .bad er) : er = 15 ∨ er = 10 := by
  unfold rdS at hr
  split at hr
  · cases hr; exact .inl rfl
  · split at hr
    · cases hr; exact .inr rfl
    · split at hr
      · cases hr
      · cases hr; exact .inl rfl

/-- A symbol behind a fault. -/
theorem sym_idle (h : QS B p rv bs lim nb er w ov s) (her : er ≠ 0) (v : Value) :
    Calls Tryd.prog 59 #[.pointer (some ⟨p, 0, none⟩), v] w fun e w' => e = .returned (.int .i64 0) ∧ w = w' := by
  have c4 := h.cells.c4
  have d : ((er : Int) != 0) = true := by simp; omega
  clear h
  go_enter Tryd.func59, Tryd.ntmps59
  go_wp2
  go_ret
  exact ⟨rfl, rfl⟩

set_option maxHeartbeats 1600000 in
/-- The next symbol. -/
theorem symq_any {pc : Nat} {ls : List Nat} (h : QS B p rv bs lim nb 0 w ov s) (hc : Cod w p ov pc ls) (H : Ok ls) :
    Calls Tryd.prog 59 #[.pointer (some ⟨p, 0, none⟩), .pointer (some ⟨pc, 0, none⟩)] w (QTo B p rv bs lim nb w ov nv (.int .i64 0) (rdS bs ls s)) := by
  have c0 := h.cells.c0
  have c1 := h.cells.c1
  have c4 := h.cells.c4
  have f1 := h.cells.f1
  have hLb : s.at_ ≤ 8000 := by have := h.len; have := h.in_; omega
  have hin := h.in_
  obtain ⟨ro, rc, rfl⟩ := h.rshape
  have HN : Hid (∀ n, Calls Tryd.prog 72 #[.pointer (some ⟨pc, 0, none⟩), .slice ro (8 * bs.length) rc, .int .i64 (s.at_ : Nat)] (w.drewN n) fun e w' => e = .returned (nx ls (rdS bs ls s)) ∧ ∃ q, w' = (w.drewN n).drewN q) := Lib.hid fun n => by
    obtain ⟨hq, mq⟩ := h.drewN n
    have hl : (rbits bs (8 * bs.length)).length = 8 * bs.length := rbits_len _ _
    have hrow : (w.drewN n).ownsRow B 5 1 (.slice ro (rbits bs (8 * bs.length)).length rc) (rbits bs (8 * bs.length)).length (u8s (rbits bs (8 * bs.length))) := by rw [hl]; exact hq.row
    have k := rnext_any pc ls ro rc (rbits bs (8 * bs.length)) s.at_ (w.drewN n) (hc _ mq.touch) (BySl.own hrow) H.len (fun y => ln_le H y) (by rw [hl]; have := h.len; omega) (by rw [hl]; exact h.in_)
    rw [hl] at k
    exact k.mono fun e w' hk => rnext_is H h.bsb h.in_ hk
  have HX := Lib.hid h
  obtain ⟨L, hL⟩ : ∃ L, L = 8 * bs.length := ⟨_, rfl⟩
  obtain ⟨A, hA⟩ : ∃ A, A = s.at_ := ⟨_, rfl⟩
  have HL := Lib.hid hL
  have HA := Lib.hid hA
  rw [← hL] at c0 HN hin
  rw [← hA] at c1 HN hLb hin
  cases hr : rdS bs ls s with
  | bad er =>
    rw [hr] at HN
    have her := rdS_er hr
    have d1 : ((er : Int) != 0) = true := by simp; omega
    have HE := Lib.hid her
    simp only [nx] at HN
    clear h hc hr her hL hA
    go_enter Tryd.func59, Tryd.ntmps59
    go_wp2
    go_quiet ((go_at_call 72; exact Calls.quiet_of (HN.out _)))
    go_wp2_with fail
    refine (fail_yes (HX.out.drewN _).1 er (by have := HE.out; omega)).mono ?_
    rintro e w3 ⟨rfl, h3, m3⟩
    have H3 := Lib.hid h3
    have M3 := Lib.hid m3
    clear h3 m3
    go_wp2
    go_ret
    exact QTo.bad rfl H3.out ((HX.out.drewN _).2.trans M3.out)
  | ok y t =>
    rw [hr] at HN
    obtain ⟨_, k1, k2, k3⟩ := rdS_is hr
    simp only [nx] at HN
    obtain ⟨m, hm⟩ : ∃ m, m = ln ls y := ⟨_, rfl⟩
    rw [← hm] at HN k1 k2 k3
    have hm2 : m ≤ 15 := by rw [hm]; exact ln_le H y
    have HK := Lib.hid k3
    have hk2 : A + m ≤ L := by omega
    have HK2 := Lib.hid k2
    have hy : y < 320 := by
      have := ln_lt (ls := ls) (s := y) (by omega)
      have := H.len
      omega
    clear h hc hr hL hA k1 k2 k3 hm
    go_enter Tryd.func59, Tryd.ntmps59
    go_wp2
    go_quiet ((go_at_call 72; exact Calls.quiet_of (HN.out _)))
    go_wp2
    go_ret
    have k := fun q => (HX.out.drewN q).1.setAt (s.at_ + m) (Nat.le_add_right _ _) HK2.out (x := (A : Int) + m) (by rw [HA.out]; simp)
    exact QTo.ok (enc := nv) rfl (by rw [HK.out]; exact (k _).1) ((HX.out.drewN _).2.trans (k _).2)
end
end Go.Proofs.YtnnkegpnjedneaaDoor

/-
  stored of the reference's run.
-/
namespace Go.Proofs.YtnnkegpnjedneaaDoor
open Go.RowKit
set_option maxRecDepth 100000

theorem take_step (l : List Nat) (i : Nat) (h : i < l.length) : l.take (i + 1) = l.take i ++ [l.getD i 0] := by
  rw [List.take_succ_eq_append_getElem h, List.getD_eq_getElem?_getD, List.getElem?_eq_getElem h]; rfl
theorem pk_byte {bs : List Nat} (hb : Bs bs) (j : Nat) : pk bs (8 * j) 8 = bs.getD j 0 := by
  unfold pk
  rw [num_byte hb, pow256]

section
variable {B p : Nat} {rv : Value} {bs : List Nat} {lim nb er : Nat} {w : World} {ov : Value} {s : Sta}

theorem QF.drewN {w0 : World} {ov0 : Value} (h : QS B p rv bs lim nb er w ov s ∧ Qv p w0 ov0 w ov) (q : Nat) : QS B p rv bs lim nb er (w.drewN q) ov s ∧ Qv p w0 ov0 (w.drewN q) ov :=
  ⟨(h.1.drewN q).1, h.2.trans (h.1.drewN q).2⟩

set_option maxHeartbeats 6400000 in
theorem rstored_any (h : QS B p rv bs lim nb 0 w ov s) :
    Calls Tryd.prog 44 #[.pointer (some ⟨p, 0, none⟩)] w (QTo B p rv bs lim nb w ov uv (.tuple #[]) (stored bs lim s)) := by
  obtain ⟨R, hR⟩ : ∃ R, R = stored bs lim s := ⟨_, rfl⟩
  rw [← hR]
  unfold stored at hR
  have HR := Lib.hid hR.symm
  have hin := h.in_
  have hu1 := up8_le s.at_
  have hu2 := up8_end hin
  have hu3 : up8 s.at_ % 8 = 0 := by unfold up8; omega
  have hu4 : up8 s.at_ < s.at_ + 8 := by unfold up8; omega
  obtain ⟨U, hU⟩ : ∃ U, U = up8 s.at_ := ⟨_, rfl⟩
  obtain ⟨A, hA⟩ : ∃ A, A = s.at_ := ⟨_, rfl⟩
  rw [← hU] at hu1 hu2 hu3 hu4 HR
  rw [← hA] at hu1 hu4
  have hLb : U ≤ 8000 := by have := h.len; omega
  have H0 : Hid (QS B p rv bs lim nb 0 w ov { s with at_ := A } ∧ Qv p w ov w ov) := Lib.hid ⟨by rw [hA]; exact h, Qv.refl _ _ _⟩
  have HU := Lib.hid hu2
  clear h hR hU hA hin hu2
  go_enter Tryd.func44, Tryd.ntmps44
  go_wp2
  go_loopg [] (U - A) (fun gm wr => ∃ m, A ≤ m ∧ m ≤ U ∧ U - m ≤ gm ∧ Hid (QS B p rv bs lim nb 0 wr ov { s with at_ := m } ∧ Qv p w ov wr ov))
  case atStart => exact ⟨A, Nat.le_refl _, hu1, Nat.le_refl _, H0⟩
  case round =>
    clear H0
    obtain ⟨m, hm1, hm2, hgm, HX⟩ := hrel
    have c1 := HX.out.1.cells.c1
    have f1 := HX.out.1.cells.f1
    simp only at c1
    by_cases hmod : m % 8 = 0
    · have hmU : m = U := by omega
      have d1 : ((m : Int) % 8 != 0) = false := by simp; omega
      have d2 : (((m % 8 : Nat) : Int) != 0) = false := by simp; omega
      have HN := Lib.hid (num_any HX.out.1 16 (by omega))
      rw [hmU] at HN HX
      clear hmod hmU f1
      go_wp2_with fail
      refine HN.out.mono ?_
      rintro e w1 h1
      have hR := HR.out
      cases hr1 : rdN bs 16 { s with at_ := U } with
      | bad er =>
        rw [hr1] at h1 hR
        obtain ⟨rfl, ov1, s1, h1, m1⟩ := h1
        have her : er = 15 := by unfold rdN at hr1; split at hr1; cases hr1; cases hr1; rfl
        subst her
        have HF0 := Lib.hid h1
        have MF0 := Lib.hid (HX.out.2.trans m1)
        have HRF := Lib.hid hR.symm
        clear hr1 hR h1 m1 c1 d1 d2 HX HN
        go_wp2_with fail
        refine (num_idle HF0.out (by omega) 16).mono ?_
        rintro e w2 ⟨rfl, q, hw2⟩
        have HF := Lib.hid (show QS B p rv bs lim nb 15 w2 ov1 s1 from by rw [hw2]; exact (HF0.out.drewN q).1)
        have MF := Lib.hid (show Qv p w ov w2 ov1 from by rw [hw2]; exact MF0.out.trans (HF0.out.drewN q).2)
        clear hw2 HF0 MF0
        obtain ⟨W, hW⟩ : ∃ W, W = w2 := ⟨_, rfl⟩
        rw [← hW] at HF MF ⊢
        clear hW
        have c4 := HF.out.cells.c4
        go_wp2
        go_quiet (fail)
        go_wp2
        go_quiet (fail)
        go_wp2
        go_loopg [4] 1 (fun _gm v4 wr => v4 = .int .i64 0 ∧ Hid (QS B p rv bs lim nb 15 wr ov1 s1 ∧ Qv p w ov wr ov1))
        case atStart => exact ⟨rfl, Lib.hid (QF.drewN (QF.drewN ⟨HF.out, MF.out⟩ _) _)⟩
        case round =>
          obtain ⟨rfl, HY⟩ := hrel
          have c4 := HY.out.1.cells.c4
          go_wp2
          go_end0
          exact QTo.bad HRF.out HY.out.1 HY.out.2
      | ok n s1 =>
        rw [hr1] at h1 hR
        obtain ⟨rfl, ov1, h1, m1⟩ := h1
        rw [Res.bind_ok] at hR
        have hn := rdN_lt hr1
        obtain ⟨k1, k2, k3⟩ := rdN_is hr1
        have hn6 : n < 65536 := hn
        have hat1 : s1.at_ = U + 16 := by rw [k3]
        have H1 := Lib.hid h1
        have M1 := Lib.hid (HX.out.2.trans m1)
        have HR1 := Lib.hid hR
        have HN2 := Lib.hid (num_any h1 16 (by omega))
        clear hr1 hR h1 m1 c1 d1 d2 HX HN hn k1 k2 k3 HR
        go_wp2_with fail
        refine HN2.out.mono ?_
        rintro e w2 h2
        have hR := HR1.out
        cases hr2 : rdN bs 16 s1 with
        | bad er =>
          rw [hr2] at h2 hR
          obtain ⟨rfl, ov2, s2, h2, m2⟩ := h2
          have her : er = 15 := by unfold rdN at hr2; split at hr2; cases hr2; cases hr2; rfl
          subst her
          have HF := Lib.hid h2
          have MF := Lib.hid (M1.out.trans m2)
          have HRF := Lib.hid hR.symm
          have c4 := h2.cells.c4
          clear hr2 hR h2 m2 HN2 H1 M1 HR1
          obtain ⟨W, hW⟩ : ∃ W, W = w2 := ⟨_, rfl⟩
          rw [← hW] at HF MF c4 ⊢
          clear hW
          go_wp2
          go_quiet (fail)
          go_wp2
          go_quiet (fail)
          go_wp2
          go_loopg [4] 1 (fun _gm v4 wr => v4 = .int .i64 0 ∧ Hid (QS B p rv bs lim nb 15 wr ov2 s2 ∧ Qv p w ov wr ov2))
          case atStart => exact ⟨rfl, Lib.hid (QF.drewN (QF.drewN ⟨HF.out, MF.out⟩ _) _)⟩
          case round =>
            obtain ⟨rfl, HY⟩ := hrel
            have c4 := HY.out.1.cells.c4
            by_cases hn0 : n = 0
            · subst hn0
              go_wp2
              go_end0
              exact QTo.bad HRF.out HY.out.1 HY.out.2
            · have hn1 : (0 : Int) < n := by omega
              clear hn0
              go_wp2
              go_end0
              exact QTo.bad HRF.out HY.out.1 HY.out.2
        | ok m2 s2 =>
          rw [hr2] at h2 hR
          obtain ⟨rfl, ov2, h2, m2'⟩ := h2
          rw [Res.bind_ok] at hR
          have hm := rdN_lt hr2
          obtain ⟨k1, k2, k3⟩ := rdN_is hr2
          have hm6 : m2 < 65536 := hm
          have hat2 : s2.at_ = U + 32 := by rw [k3]; show s1.at_ + 16 = _; omega
          have H2 := Lib.hid h2
          have M2 := Lib.hid (M1.out.trans m2')
          have c4 := h2.cells.c4
          have c0 := h2.cells.c0
          have c1 := h2.cells.c1
          have c2 := h2.cells.c2
          have c3 := h2.cells.c3
          have hin2 := h2.in_
          have hlim := h2.lim_
          have hout := h2.out
          obtain ⟨ao, ca, rfl⟩ := h2.shape
          obtain ⟨ro, rc, rfl⟩ := h2.rshape
          clear hr2 h2 m2' HN2 H1 M1 HR1 hm k1 k2 k3
          by_cases hs : m2 ≠ 65535 - n
          · rw [if_pos hs] at hR
            have HRF := Lib.hid hR.symm
            have d3 : ((n : Int) + m2 != 65535) = true := by simp; omega
            clear hR hs c0 c1 c2 c3
            go_wp2_with fail
            refine (fail_yes H2.out 10 (by omega)).mono ?_
            rintro e W ⟨rfl, h3, m3⟩
            have HF := Lib.hid h3
            have MF := Lib.hid (M2.out.trans m3)
            have c4 := h3.cells.c4
            clear h3 m3 H2 M2 d3
            go_wp2
            go_quiet (fail)
            go_wp2
            go_quiet (fail)
            go_wp2
            go_loopg [4] 1 (fun _gm v4 wr => v4 = .int .i64 0 ∧ Hid (QS B p (.slice ro (8 * bs.length) rc) bs lim nb 10 wr (.slice ao s2.out.length ca) s2 ∧ Qv p w ov wr (.slice ao s2.out.length ca)))
            case atStart => exact ⟨rfl, Lib.hid (QF.drewN (QF.drewN ⟨HF.out, MF.out⟩ _) _)⟩
            case round =>
              obtain ⟨rfl, HY⟩ := hrel
              have c4 := HY.out.1.cells.c4
              by_cases hn0 : n = 0
              · subst hn0
                go_wp2
                go_end0
                exact QTo.bad HRF.out HY.out.1 HY.out.2
              · have hn1 : (0 : Int) < n := by omega
                clear hn0
                go_wp2
                go_end0
                exact QTo.bad HRF.out HY.out.1 HY.out.2
          · rw [if_neg hs] at hR
            have d3 : ((n : Int) + m2 != 65535) = false := by simp; omega
            obtain ⟨L, hL⟩ : ∃ L, L = 8 * bs.length := ⟨_, rfl⟩
            obtain ⟨o, ho⟩ : ∃ o, o = s2.out.length := ⟨_, rfl⟩
            rw [← hL] at c0 hin2
            rw [← ho] at c2 hout
            rw [hat2] at c1 hin2
            have HO := Lib.hid ho
            have HL := Lib.hid hL
            have HAT := Lib.hid hat2
            clear hs hat1 hat2
            by_cases ht : L < U + 32 + 8 * n
            · rw [if_pos (show 8 * bs.length < s2.at_ + 8 * n by rw [HAT.out]; omega)] at hR
              have HRF := Lib.hid hR.symm
              have d5 : ((L : Int) < U + 32 + 8 * n) := by omega
              clear hR hL ho ht
              go_wp2
              go_quiet (fail)
              go_wp2_with fail
              refine (fail_yes (H2.out.drewN _).1 15 (by omega)).mono ?_
              rintro e W ⟨rfl, h3, m3⟩
              have HF := Lib.hid h3
              have MF := Lib.hid ((M2.out.trans (H2.out.drewN _).2).trans m3)
              have c4 := h3.cells.c4
              clear h3 m3 H2 M2 d3 d5 c0 c1 c2 c3
              go_wp2
              go_quiet (fail)
              go_wp2
              go_loopg [4] 1 (fun _gm v4 wr => v4 = .int .i64 0 ∧ Hid (QS B p (.slice ro (8 * bs.length) rc) bs lim nb 15 wr (.slice ao s2.out.length ca) s2 ∧ Qv p w ov wr (.slice ao s2.out.length ca)))
              case atStart => exact ⟨rfl, Lib.hid (QF.drewN ⟨HF.out, MF.out⟩ _)⟩
              case round =>
                obtain ⟨rfl, HY⟩ := hrel
                have c4 := HY.out.1.cells.c4
                by_cases hn0 : n = 0
                · subst hn0
                  go_wp2
                  go_end0
                  exact QTo.bad HRF.out HY.out.1 HY.out.2
                · have hn1 : (0 : Int) < n := by omega
                  clear hn0
                  go_wp2
                  go_end0
                  exact QTo.bad HRF.out HY.out.1 HY.out.2
            · rw [if_neg (show ¬ 8 * bs.length < s2.at_ + 8 * n by rw [HAT.out]; omega)] at hR
              have d5 : decide ((L : Int) < U + 32 + 8 * n) = false := by simp; omega
              have d6 : decide (L < U + 32 + 8 * n) = false := by simp; omega
              have e7 : IntKind.i64.wrap ((lim : Int) - o) = ((lim - o : Nat) : Int) := by rw [IntKind.wrap_i64]; omega
              obtain ⟨dl, hdl⟩ : ∃ dl, dl = lim - o := ⟨_, rfl⟩
              rw [← hdl] at e7
              have e8 : (lim : Int) - o = dl := by omega
              by_cases hfull : dl < n
              · rw [if_pos (show lim < s2.out.length + n by rw [← HO.out]; omega)] at hR
                have HRF := Lib.hid hR.symm
                have d7 : ((dl : Int) < n) := by omega
                clear hR hL ho ht hdl
                go_wp2
                go_quiet (fail)
                go_wp2
                go_quiet (fail)
                go_wp2_with fail
                refine (fail_yes (H2.out.drewN _).1 14 (by omega)).mono ?_
                rintro e W ⟨rfl, h3, m3⟩
                have HF := Lib.hid h3
                have MF := Lib.hid ((M2.out.trans (H2.out.drewN _).2).trans m3)
                have c4 := h3.cells.c4
                clear h3 m3 H2 M2 d3 d5 d6 d7 c0 c1 c2 c3 e7 e8
                go_wp2
                go_loopg [4] 1 (fun _gm v4 wr => v4 = .int .i64 0 ∧ Hid (QS B p (.slice ro (8 * bs.length) rc) bs lim nb 14 wr (.slice ao s2.out.length ca) s2 ∧ Qv p w ov wr (.slice ao s2.out.length ca)))
                case atStart => exact ⟨rfl, Lib.hid ⟨HF.out, MF.out⟩⟩
                case round =>
                  obtain ⟨rfl, HY⟩ := hrel
                  have c4 := HY.out.1.cells.c4
                  by_cases hn0 : n = 0
                  · subst hn0
                    go_wp2
                    go_end0
                    exact QTo.bad HRF.out HY.out.1 HY.out.2
                  · have hn1 : (0 : Int) < n := by omega
                    clear hn0
                    go_wp2
                    go_end0
                    exact QTo.bad HRF.out HY.out.1 HY.out.2
              · rw [if_neg (show ¬ lim < s2.out.length + n by rw [← HO.out]; omega)] at hR
                have d7 : decide ((dl : Int) < n) = false := by simp; omega
                have d8 : decide (dl < n) = false := by simp; omega
                have HR2 := Lib.hid hR.symm
                have hU8 : U + 32 + 8 * n ≤ L := by omega
                have hroom : o + n ≤ lim := by omega
                obtain ⟨j, hj⟩ : ∃ j, j = s2.at_ / 8 := ⟨_, rfl⟩
                have hj8 : 8 * j = U + 32 := by rw [hj, HAT.out]; omega
                rw [← hj] at HR2
                have hjL : j + n ≤ bs.length := by omega
                have HJL := Lib.hid hjL
                have HJ8 := Lib.hid hj8
                have HRM := Lib.hid hroom
                have hsteps := H2.out.steps
                have hstb : s2.steps ≤ 100000 := by omega
                have HST := Lib.hid hsteps
                have hnL : n ≤ 1000 := by have := H2.out.len; omega
                clear hR hL ho ht hdl hj hj8 hjL hfull hU8
                go_wp2
                go_quiet (fail)
                go_wp2
                go_quiet (fail)
                go_wp2
                obtain ⟨W, hW⟩ : ∃ W, W = w2 := ⟨_, rfl⟩
                rw [← hW] at H2 M2 ⊢
                clear hW c0 c1 c2 c3 c4 e7 e8 d3 d5 d6 d7 d8
                have HS0 : Hid (QS B p (.slice ro (8 * bs.length) rc) bs lim nb 0 W (.slice ao s2.out.length ca) { s2 with at_ := s2.at_ + 8 * 0, out := s2.out ++ (bs.drop j).take 0, steps := s2.steps + 0 } ∧ Qv p w ov W (.slice ao s2.out.length ca)) :=
                  Lib.hid ⟨by simpa using H2.out, M2.out⟩
                go_loopg [4] n (fun gm v4 wr => ∃ i : Nat, i ≤ n ∧ n - i ≤ gm ∧ v4 = .int .i64 (i : Nat) ∧ Hid (∃ ov', QS B p (.slice ro (8 * bs.length) rc) bs lim nb 0 wr ov' { s2 with at_ := s2.at_ + 8 * i, out := s2.out ++ (bs.drop j).take i, steps := s2.steps + i } ∧ Qv p w ov wr ov'))
                case atStart => exact ⟨0, Nat.zero_le _, Nat.le_refl _, rfl, Lib.hid ⟨_, QF.drewN (QF.drewN HS0.out _) _⟩⟩
                case round =>
                  clear HS0 H2 M2
                  obtain ⟨i, hi, hgm, rfl, HX⟩ := hrel
                  obtain ⟨ovi, hxi, mxi⟩ := HX.out
                  have X := Lib.hid hxi
                  have MX := Lib.hid mxi
                  have c4 := hxi.cells.c4
                  by_cases hlt : i < n
                  · have hlt' : (i : Int) < n := by omega
                    have hrd : rdN bs 8 { s2 with at_ := s2.at_ + 8 * i, out := s2.out ++ (bs.drop j).take i, steps := s2.steps + i } = .ok (bs.getD (j + i) 0) { s2 with at_ := s2.at_ + 8 * (i + 1), out := s2.out ++ (bs.drop j).take i, steps := s2.steps + i } := by
                      unfold rdN
                      rw [if_pos (by show s2.at_ + 8 * i + 8 ≤ _; rw [HAT.out]; have := HJL.out; have := HJ8.out; omega)]
                      show Res.ok (pk bs (s2.at_ + 8 * i) 8) _ = _
                      have k1 : s2.at_ + 8 * i = 8 * (j + i) := by rw [HAT.out]; have := HJ8.out; omega
                      have k2 : s2.at_ + 8 * (i + 1) = 8 * (j + i) + 8 := by rw [HAT.out]; have := HJ8.out; omega
                      rw [k1, k2, pk_byte hxi.bsb]
                    have HN := Lib.hid (num_any hxi 8 (by omega))
                    rw [hrd] at HN
                    have hc := getD_bs hxi.bsb (j + i)
                    obtain ⟨c, hce⟩ : ∃ c, c = bs.getD (j + i) 0 := ⟨_, rfl⟩
                    rw [← hce] at HN hc
                    have e9 : IntKind.u8.wrap (c : Int) = c := by rw [IntKind.wrap_u8']; omega
                    have HC := Lib.hid hce
                    clear hxi mxi hrd hce HX
                    go_wp2_with fail
                    refine HN.out.mono ?_
                    rintro e w4 ⟨rfl, ov4, h4, m4⟩
                    have HP := Lib.hid (rput_yes h4 c hc (by
                      show (s2.out ++ (bs.drop j).take i).length < lim
                      have := HRM.out
                      rw [HO.out] at this
                      have h5 : ((bs.drop j).take i).length ≤ i := List.length_take_le _ _
                      rw [List.length_append]; omega))
                    have M4 := Lib.hid (MX.out.trans m4)
                    clear h4 m4 HN c4
                    go_wp2_with fail
                    refine HP.out.mono ?_
                    rintro e w5 ⟨rfl, ov5, h5, m5⟩
                    have h6 := h5.setSteps (s2.steps + i + 1) (by show s2.steps + i + 1 ≤ s2.at_ + 8 * (i + 1); have := HST.out; omega) (x := ((s2.steps + i : Nat) : Int) + 1) (by simp)
                    have c5 := h5.cells.c5
                    have f5 := h5.cells.f5
                    simp only at c5
                    have H6 := Lib.hid h6
                    have M5 := Lib.hid (M4.out.trans m5)
                    clear h6 h5 m5 HP M4 hc
                    go_wp2
                    go_roundg (n - (i + 1))
                    case measure => omega
                    case rel =>
                      refine ⟨i + 1, by omega, Nat.le_refl _, by simp, Lib.hid ⟨_, ?_, M5.out.trans H6.out.2⟩⟩
                      have := H6.out.1
                      rw [take_step _ i (by rw [List.length_drop]; have := HJL.out; omega), show (bs.drop j).getD i 0 = c by rw [HC.out]; simp [List.getD], ← List.append_assoc]
                      exact this
                  · obtain rfl : i = n := by omega
                    clear hxi mxi
                    go_wp2
                    go_end0
                    exact QTo.ok (enc := uv) HR2.out X.out MX.out
    · have d1 : ((m : Int) % 8 != 0) = true := by simp; omega
      have d2 : (((m % 8 : Nat) : Int) != 0) = true := by simp; omega
      have hlt : m < U := by
        rcases Nat.lt_or_ge m U with h | h
        · exact h
        · exact absurd (show m % 8 = 0 by rw [show m = U by omega]; exact hu3) hmod
      have h6 := HX.out.1.setAt (m + 1) (by show m ≤ m + 1; omega) (by have := HU.out; omega) (x := (m : Int) + 1) (by simp)
      have H6 := Lib.hid h6
      have M6 := Lib.hid HX.out.2
      clear h6 HX hmod
      go_wp2
      go_roundg (U - (m + 1))
      case measure => omega
      case rel => exact ⟨m + 1, by omega, by omega, Nat.le_refl _, Lib.hid ⟨H6.out.1, M6.out.trans H6.out.2⟩⟩
end
end Go.Proofs.YtnnkegpnjedneaaDoor

/-
  copied of the reference's run.
-/
namespace Go.Proofs.YtnnkegpnjedneaaDoor
open Go.RowKit
set_option maxRecDepth 100000

section
variable {B p : Nat} {rv : Value} {bs : List Nat} {lim nb er : Nat} {w : World} {ov : Value} {s : Sta}
theorem rdN_er {n : Nat} {er : Nat} (h : rdN bs n s = .bad er) : er = 15 := by
  unfold rdN at h
  split at h
  · cases h
  · cases h; rfl
theorem lenOf_lo {y : Nat} {x : Nat × Nat} (h : lenOf y = some x) : 1 ≤ x.1 := by
  unfold lenOf at h
  split at h
  · cases h
  · split at h
    · cases h; decide
    · split at h
      · cases h; show 1 ≤ y - 254; omega
      · cases h; show 1 ≤ 3 + _; omega

theorem rDis0 (W : World) : Calls Tryd.prog 17 #[.int .i64 0] W fun e w' => e = .returned (.tuple #[.int .i64 1, .int .i64 0, .bool true]) ∧ W = w' := rDistance_any 0 W

set_option maxHeartbeats 6400000 in
theorem copied_any {pc : Nat} {ol : List Nat} (h : QS B p rv bs lim nb 0 w ov s) (hc : Cod w p ov pc ol) (Hol : Ok ol) (y : Nat) :
    Calls Tryd.prog 60 #[.pointer (some ⟨p, 0, none⟩), .int .i64 (y : Nat), .pointer (some ⟨pc, 0, none⟩)] w (QTo B p rv bs lim nb w ov uv (.tuple #[]) (again bs lim ol y s)) := by
  obtain ⟨R, hR⟩ : ∃ R, R = again bs lim ol y s := ⟨_, rfl⟩
  rw [← hR]
  unfold again at hR
  have HL := Lib.hid fun W => rLength_any y W
  have X0 := Lib.hid h
  have HO := Lib.hid Hol
  cases hL : lenOf y with
  | none =>
    simp only [hL, tells] at HL
    rw [hL] at hR
    have HRF := Lib.hid hR
    clear h hc hL hR Hol
    go_enter Tryd.func60, Tryd.ntmps60
    go_wp2_with fail
    refine (HL.out _).mono ?_
    rintro e w0 ⟨rfl, rfl⟩
    go_wp2_with fail
    refine (fail_yes X0.out 10 (by omega)).mono ?_
    rintro e w1 ⟨rfl, h1, m1⟩
    have H1 := Lib.hid h1
    have M1 := Lib.hid m1
    clear h1 m1
    go_wp2
    go_end0
    exact QTo.bad HRF.out H1.out M1.out
  | some x =>
    obtain ⟨xa, xb⟩ := x
    have hx := lenOf_le hL
    have hx1 := lenOf_lo hL
    simp only at hx hx1
    simp only [hL, tells] at HL
    rw [hL] at hR
    unfold grown at hR
    simp only at hR
    have HR := Lib.hid hR
    have HN := Lib.hid (num_any h xb hx.2)
    have HC := Lib.hid hc
    have hxa : (1 : Int) ≤ xa := by omega
    clear hL hR h hc Hol
    go_enter Tryd.func60, Tryd.ntmps60
    go_wp2_with fail
    refine (HL.out _).mono ?_
    rintro e w0 ⟨rfl, rfl⟩
    go_wp2_with fail
    refine HN.out.mono ?_
    rintro e w1 h1
    have hR := HR.out
    cases hr1 : rdN bs xb s with
    | bad er =>
      rw [hr1] at h1 hR
      obtain rfl := rdN_er hr1
      obtain ⟨rfl, ov1, s1, h1, m1⟩ := h1
      have HF0 := Lib.hid h1
      have MF0 := Lib.hid m1
      have HRF := Lib.hid hR
      clear hr1 hR h1 m1 HN HR HL
      go_wp2_with fail
      refine (sym_idle HF0.out (by omega) _).mono ?_
      rintro e w8 ⟨rfl, rfl⟩
      go_wp2_with fail
      refine (rDis0 _).mono ?_
      rintro e w8 ⟨rfl, rfl⟩
      go_wp2_with fail
      refine (num_idle HF0.out (by omega) 0).mono ?_
      rintro e w9 ⟨rfl, q, hw9⟩
      have HF := Lib.hid (show QS B p rv bs lim nb 15 w9 ov1 s1 from by rw [hw9]; exact (HF0.out.drewN q).1)
      have MF := Lib.hid (show Qv p w ov w9 ov1 from by rw [hw9]; exact MF0.out.trans (HF0.out.drewN q).2)
      clear hw9 HF0 MF0
      obtain ⟨W, hW⟩ : ∃ W, W = w9 := ⟨_, rfl⟩
      rw [← hW] at HF MF ⊢
      clear hW
      have c4 := HF.out.cells.c4
      go_wp2
      go_quiet (fail)
      go_wp2
      go_loopg [13] 1 (fun _gm v13 wr => v13 = .int .i64 0 ∧ Hid ((∃ s', QS B p rv bs lim nb 15 wr ov1 s') ∧ Qv p w ov wr ov1))
      case atStart => exact ⟨rfl, Lib.hid ⟨⟨_, (HF.out.drewN _).1⟩, MF.out.trans (HF.out.drewN _).2⟩⟩
      case round =>
        obtain ⟨rfl, HY⟩ := hrel
        obtain ⟨sy, hy⟩ := HY.out.1
        have c4 := hy.cells.c4
        have HZ := Lib.hid hy
        clear hy
        go_wp2
        go_end0
        exact QTo.bad HRF.out HZ.out HY.out.2
    | ok v s1 =>
      rw [hr1] at h1 hR
      obtain ⟨rfl, ov1, h1, m1⟩ := h1
      have hv : v < 65536 := Nat.lt_of_lt_of_le (rdN_lt hr1) (Nat.le_trans (Nat.pow_le_pow_right (by omega) hx.2) (by decide : 2 ^ 16 ≤ 65536))
      rw [Res.bind_ok, Res.bind_ok] at hR
      have HR1 := Lib.hid hR
      obtain ⟨n, hn⟩ : ∃ n, n = xa + v := ⟨_, rfl⟩
      have e1 : (xa : Int) + v = n := by omega
      have hn1 : (0 : Int) < n := by omega
      have hnb : n ≤ 100000 := by omega
      have HNN := Lib.hid hn
      have M1 := Lib.hid m1
      have C1 := Lib.hid (HC.out.on m1)
      have HS := Lib.hid (symq_any h1 C1.out HO.out)
      rw [← hn] at HR1
      clear hr1 hR h1 m1 HN HR HL hn
      go_wp2_with fail
      refine HS.out.mono ?_
      rintro e w2 h2
      have hR := HR1.out
      cases hr2 : rdS bs ol s1 with
      | bad er =>
        rw [hr2] at h2 hR
        have her := rdS_er hr2
        obtain ⟨rfl, ov2, s2, h2, m2⟩ := h2
        have HF0 := Lib.hid h2
        have MF0 := Lib.hid (M1.out.trans m2)
        have HRF := Lib.hid hR
        have dE : ((er : Int) == 0) = false := by simp; omega
        clear hr2 hR h2 m2 HS HR1
        go_wp2_with fail
        refine (rDis0 _).mono ?_
        rintro e w8 ⟨rfl, rfl⟩
        go_wp2_with fail
        refine (num_idle HF0.out (by omega) 0).mono ?_
        rintro e w9 ⟨rfl, q, hw9⟩
        have HF := Lib.hid (show QS B p rv bs lim nb er w9 ov2 s2 from by rw [hw9]; exact (HF0.out.drewN q).1)
        have MF := Lib.hid (show Qv p w ov w9 ov2 from by rw [hw9]; exact MF0.out.trans (HF0.out.drewN q).2)
        clear hw9 HF0 MF0
        obtain ⟨W, hW⟩ : ∃ W, W = w9 := ⟨_, rfl⟩
        rw [← hW] at HF MF ⊢
        clear hW
        have c4 := HF.out.cells.c4
        go_wp2
        go_quiet (fail)
        go_wp2
        go_loopg [13] 1 (fun _gm v13 wr => v13 = .int .i64 0 ∧ Hid ((∃ s', QS B p rv bs lim nb er wr ov2 s') ∧ Qv p w ov wr ov2))
        case atStart => exact ⟨rfl, Lib.hid ⟨⟨_, (HF.out.drewN _).1⟩, MF.out.trans (HF.out.drewN _).2⟩⟩
        case round =>
          obtain ⟨rfl, HY⟩ := hrel
          obtain ⟨sy, hy⟩ := HY.out.1
          have c4 := hy.cells.c4
          have HZ := Lib.hid hy
          clear hy
          go_wp2
          go_end0
          exact QTo.bad HRF.out HZ.out HY.out.2
      | ok d s2 =>
        rw [hr2] at h2 hR
        obtain ⟨rfl, ov2, h2, m2⟩ := h2
        rw [Res.bind_ok] at hR
        have HD := Lib.hid fun W => rDistance_any d W
        have M2 := Lib.hid (M1.out.trans m2)
        have X2 := Lib.hid h2
        clear hr2 h2 m2 HS HR1 M1 C1
        cases hD : disOf d with
        | none =>
          simp only [hD, tells] at HD
          rw [hD] at hR
          have HRF := Lib.hid hR
          clear hD hR
          go_wp2_with fail
          refine (HD.out _).mono ?_
          rintro e w8 ⟨rfl, rfl⟩
          go_wp2_with fail
          refine (fail_yes X2.out 10 (by omega)).mono ?_
          rintro e w3 ⟨rfl, h3, m3⟩
          have HF0 := Lib.hid h3
          have MF0 := Lib.hid (M2.out.trans m3)
          clear h3 m3 HD
          go_wp2_with fail
          refine (num_idle HF0.out (by omega) 0).mono ?_
          rintro e w9 ⟨rfl, q, hw9⟩
          have HF := Lib.hid (show QS B p rv bs lim nb 10 w9 ov2 s2 from by rw [hw9]; exact (HF0.out.drewN q).1)
          have MF := Lib.hid (show Qv p w ov w9 ov2 from by rw [hw9]; exact MF0.out.trans (HF0.out.drewN q).2)
          clear hw9 HF0 MF0
          obtain ⟨W, hW⟩ : ∃ W, W = w9 := ⟨_, rfl⟩
          rw [← hW] at HF MF ⊢
          clear hW
          have c4 := HF.out.cells.c4
          go_wp2
          go_quiet (fail)
          go_wp2
          go_loopg [13] 1 (fun _gm v13 wr => v13 = .int .i64 0 ∧ Hid ((∃ s', QS B p rv bs lim nb 10 wr ov2 s') ∧ Qv p w ov wr ov2))
          case atStart => exact ⟨rfl, Lib.hid ⟨⟨_, (HF.out.drewN _).1⟩, MF.out.trans (HF.out.drewN _).2⟩⟩
          case round =>
            obtain ⟨rfl, HY⟩ := hrel
            obtain ⟨sy, hy⟩ := HY.out.1
            have c4 := hy.cells.c4
            have HZ := Lib.hid hy
            clear hy
            go_wp2
            go_end0
            exact QTo.bad HRF.out HZ.out HY.out.2
        | some z =>
          obtain ⟨za, zb⟩ := z
          have hz := disOf_le hD
          simp only at hz
          simp only [hD, tells] at HD
          rw [hD] at hR
          simp only at hR
          have HR2 := Lib.hid hR
          have HN3 := Lib.hid (num_any X2.out zb hz.2.2)
          clear hD hR
          go_wp2_with fail
          refine (HD.out _).mono ?_
          rintro e w8 ⟨rfl, rfl⟩
          go_wp2_with fail
          refine HN3.out.mono ?_
          rintro e w3 h3
          have hR := HR2.out
          cases hr3 : rdN bs zb s2 with
          | bad er =>
            rw [hr3] at h3 hR
            obtain rfl := rdN_er hr3
            obtain ⟨rfl, ov3, s3, h3, m3⟩ := h3
            have HF := Lib.hid h3
            have MF := Lib.hid (M2.out.trans m3)
            have HRF := Lib.hid hR
            have c4 := h3.cells.c4
            clear hr3 hR h3 m3 HN3 HR2 HD
            obtain ⟨W, hW⟩ : ∃ W, W = w3 := ⟨_, rfl⟩
            rw [← hW] at HF MF c4 ⊢
            clear hW
            go_wp2
            go_quiet (fail)
            go_wp2
            go_loopg [13] 1 (fun _gm v13 wr => v13 = .int .i64 0 ∧ Hid ((∃ s', QS B p rv bs lim nb 15 wr ov3 s') ∧ Qv p w ov wr ov3))
            case atStart => exact ⟨rfl, Lib.hid ⟨⟨_, (HF.out.drewN _).1⟩, MF.out.trans (HF.out.drewN _).2⟩⟩
            case round =>
              obtain ⟨rfl, HY⟩ := hrel
              obtain ⟨sy, hy⟩ := HY.out.1
              have c4 := hy.cells.c4
              have HZ := Lib.hid hy
              clear hy
              go_wp2
              go_end0
              exact QTo.bad HRF.out HZ.out HY.out.2
          | ok v3 s3 =>
            rw [hr3] at h3 hR
            obtain ⟨rfl, ov3, h3, m3⟩ := h3
            have hv3 : v3 < 65536 := Nat.lt_of_lt_of_le (rdN_lt hr3) (Nat.le_trans (Nat.pow_le_pow_right (by omega) hz.2.2) (by decide : 2 ^ 16 ≤ 65536))
            rw [Res.bind_ok, Res.bind_ok] at hR
            obtain ⟨far, hfar⟩ : ∃ far, far = za + v3 := ⟨_, rfl⟩
            have e3 : (za : Int) + v3 = far := by omega
            have hfb : 1 ≤ far ∧ far ≤ 200000 := by omega
            rw [← hfar] at hR
            have M3 := Lib.hid (M2.out.trans m3)
            have X3 := Lib.hid h3
            have c4 := h3.cells.c4
            have c2 := h3.cells.c2
            have c3 := h3.cells.c3
            have hout := h3.out
            have hlim := h3.lim_
            obtain ⟨ao, cap, rfl⟩ := h3.shape
            obtain ⟨o, ho⟩ : ∃ o, o = s3.out.length := ⟨_, rfl⟩
            rw [← ho] at c2 hout
            have HO3 := Lib.hid ho
            clear hr3 h3 m3 HN3 HR2 HD M2 X2 hfar
            by_cases hf : o < far
            · rw [if_pos (show s3.out.length < far by omega)] at hR
              have HRF := Lib.hid hR
              have d1 : (o : Int) < far := by omega
              clear hR hf ho
              go_wp2_with fail
              refine (fail_yes X3.out 10 (by omega)).mono ?_
              rintro e W ⟨rfl, h4, m4⟩
              have HF := Lib.hid h4
              have MF := Lib.hid (M3.out.trans m4)
              have c4 := h4.cells.c4
              clear h4 m4 X3 M3 d1 c2 c3
              go_wp2
              go_quiet (fail)
              go_wp2
              go_loopg [13] 1 (fun _gm v13 wr => v13 = .int .i64 0 ∧ Hid ((∃ s', QS B p rv bs lim nb 10 wr (.slice ao s3.out.length cap) s') ∧ Qv p w ov wr (.slice ao s3.out.length cap)))
              case atStart => exact ⟨rfl, Lib.hid ⟨⟨_, (HF.out.drewN _).1⟩, MF.out.trans (HF.out.drewN _).2⟩⟩
              case round =>
                obtain ⟨rfl, HY⟩ := hrel
                obtain ⟨sy, hy⟩ := HY.out.1
                have c4 := hy.cells.c4
                have HZ := Lib.hid hy
                clear hy
                go_wp2
                go_end0
                exact QTo.bad HRF.out HZ.out HY.out.2
            · rw [if_neg (show ¬ s3.out.length < far by omega)] at hR
              have d1 : decide ((o : Int) < far) = false := by simp; omega
              have d2 : decide (o < far) = false := by simp; omega
              have e7 : IntKind.i64.wrap ((lim : Int) - o) = ((lim - o : Nat) : Int) := by rw [IntKind.wrap_i64]; omega
              obtain ⟨dl, hdl⟩ : ∃ dl, dl = lim - o := ⟨_, rfl⟩
              rw [← hdl] at e7
              have e8 : (lim : Int) - o = dl := by omega
              have hfo : far ≤ o := by omega
              have hob : o ≤ 2000000 := by omega
              by_cases hfull : dl < n
              · rw [if_pos (show lim < s3.out.length + n by omega)] at hR
                have HRF := Lib.hid hR
                have d7 : (dl : Int) < n := by omega
                clear hR hf ho hdl hfull
                go_wp2
                go_quiet (fail)
                go_wp2_with fail
                refine (fail_yes (X3.out.drewN _).1 14 (by omega)).mono ?_
                rintro e W ⟨rfl, h4, m4⟩
                have HF := Lib.hid h4
                have MF := Lib.hid ((M3.out.trans (X3.out.drewN _).2).trans m4)
                have c4 := h4.cells.c4
                clear h4 m4 X3 M3 d1 d2 d7 c2 c3 e7 e8
                go_wp2
                go_loopg [13] 1 (fun _gm v13 wr => v13 = .int .i64 0 ∧ Hid ((∃ s', QS B p rv bs lim nb 14 wr (.slice ao s3.out.length cap) s') ∧ Qv p w ov wr (.slice ao s3.out.length cap)))
                case atStart => exact ⟨rfl, Lib.hid ⟨⟨_, HF.out⟩, MF.out⟩⟩
                case round =>
                  obtain ⟨rfl, HY⟩ := hrel
                  obtain ⟨sy, hy⟩ := HY.out.1
                  have c4 := hy.cells.c4
                  have HZ := Lib.hid hy
                  clear hy
                  go_wp2
                  go_end0
                  exact QTo.bad HRF.out HZ.out HY.out.2
              · rw [if_neg (show ¬ lim < s3.out.length + n by omega)] at hR
                have d7 : decide ((dl : Int) < n) = false := by simp; omega
                have d8 : decide (dl < n) = false := by simp; omega
                have HR3 := Lib.hid hR
                have hroom : o + n ≤ lim := by omega
                have HRM := Lib.hid hroom
                clear hR hf ho hdl hfull hroom
                go_wp2
                go_quiet (fail)
                go_wp2
                obtain ⟨W, hW⟩ : ∃ W, W = w3 := ⟨_, rfl⟩
                rw [← hW] at X3 M3 ⊢
                clear hW c2 c3 c4 e7 e8 d1 d2 d7 d8
                have HS0 : Hid (QS B p rv bs lim nb 0 W (.slice ao s3.out.length cap) { s3 with out := back far 0 s3.out } ∧ Qv p w ov W (.slice ao s3.out.length cap)) :=
                  Lib.hid ⟨X3.out, M3.out⟩
                clear X3 M3
                go_loopg [13] n (fun gm v13 wr => ∃ i : Nat, i ≤ n ∧ n - i ≤ gm ∧ v13 = .int .i64 (i : Nat) ∧ Hid (∃ ov', QS B p rv bs lim nb 0 wr ov' { s3 with out := back far i s3.out } ∧ Qv p w ov wr ov'))
                case atStart => exact ⟨0, Nat.zero_le _, Nat.le_refl _, rfl, Lib.hid ⟨_, QF.drewN HS0.out _⟩⟩
                case round =>
                  clear HS0
                  obtain ⟨i, hi, hgm, rfl, HX⟩ := hrel
                  obtain ⟨ovi, hxi, mxi⟩ := HX.out
                  have X := Lib.hid hxi
                  have MX := Lib.hid mxi
                  have c4 := hxi.cells.c4
                  by_cases hlt : i < n
                  · have hlt' : (i : Int) < n := by omega
                    have hlen : (back far i s3.out).length = o + i := by rw [back_len, HO3.out]
                    obtain ⟨g1, cap1, hov, _, hcell⟩ := hxi.byte (o + i - far) (by show _ < (back far i s3.out).length; rw [hlen]; omega)
                    simp only at hov hcell
                    rw [hlen] at hov
                    obtain rfl := hov
                    have c2 := hxi.cells.c2
                    have hc256 := getD_bs hxi.bytes (o + i - far)
                    simp only at hc256
                    obtain ⟨c, hce⟩ : ∃ c, c = (back far i s3.out).getD (o + i - far) 0 := ⟨_, rfl⟩
                    rw [← hce] at hcell hc256
                    obtain ⟨m, hm⟩ : ∃ m, m = o + i := ⟨_, rfl⟩
                    rw [← hm] at c2 hcell hlen hce hxi mxi X MX
                    obtain ⟨k, hk⟩ : ∃ k, k = m - far := ⟨_, rfl⟩
                    rw [← hk] at hcell hce
                    have e5 : IntKind.i64.wrap ((m : Int) - far) = (k : Int) := by rw [IntKind.wrap_i64]; omega
                    have hkm : k < m := by omega
                    have hkm' : (k : Int) < m := by omega
                    obtain ⟨hq, mq⟩ := hxi.drew
                    have HP := Lib.hid (rput_yes hq c hc256 (by show (back far i s3.out).length < lim; rw [hlen]; have := HRM.out; omega))
                    have MQ := Lib.hid (MX.out.trans mq)
                    have HCE : Hid (back far (i + 1) s3.out = back far i s3.out ++ [c]) := Lib.hid (by rw [back_succ, hlen, hce, hk])
                    clear hxi mxi hq mq hce hlen HX hk hm
                    go_wp2_with fail
                    go_still_tail 14, (by kernel_rfl)
                    change wpList _ _ _ _ _ wr.drew
                    go_wp2_with fail
                    refine HP.out.mono ?_
                    rintro e w5 ⟨rfl, ov5, h5, m5⟩
                    have H5 := Lib.hid h5
                    have M5 := Lib.hid (MQ.out.trans m5)
                    clear h5 m5 HP MQ c4 c2 hcell
                    go_wp2
                    go_roundg (n - (i + 1))
                    case measure => omega
                    case rel =>
                      refine ⟨i + 1, by omega, Nat.le_refl _, by simp, Lib.hid ⟨_, ?_, M5.out⟩⟩
                      rw [HCE.out]
                      exact H5.out
                  · obtain rfl : i = n := by omega
                    clear hxi mxi
                    go_wp2
                    go_end0
                    exact QTo.ok (enc := uv) HR3.out X.out MX.out
end
end Go.Proofs.YtnnkegpnjedneaaDoor

