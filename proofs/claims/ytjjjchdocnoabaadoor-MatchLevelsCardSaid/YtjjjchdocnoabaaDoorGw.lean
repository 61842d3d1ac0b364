/-
  givesWay, where the place behind is looked at (step by step).
-/
import Derived.Test.YtjjjchdocnoabaaDoorFd
import Derived.Deep.RegionHeld3
namespace Go.Proofs.YtjjjchdocnoabaaDoor
open Go.RowKit Go.Maps
set_option maxRecDepth 100000

theorem run_call2 {ρ : Operand → Value} {o : Oper} {w : World} (x y z : Operand) (ts : Array TypeId) (f : Nat) (caps : Array Value) (v u : Value) (hF : ∀ A : Array Value, (callFunc f A).run Tryd.prog w = .ok (.enter f A) w) (ho : o.op = .call { callee := .value x, args := #[y, z], argTypes := ts }) (hx : ρ x = .func (.func f) #[] caps) (hy : ρ y = v) (hz : ρ z = u) :
    (execOp ρ o).run Tryd.prog w = .ok (.enter f (#[v, u] ++ caps)) w := by
  unfold execOp
  simp [ho, hx, hy, hz, hF, go_sem]
theorem enter21 (A : Array Value) (w : World) : (callFunc 21 A).run Tryd.prog w = .ok (.enter 21 A) w := by kernel_rfl
theorem step_call {ops : Array Oper} {o : Oper} {a : Act} {w : World} {K : Act → World → Prop} {Q : Exit → Act → World → Prop} {E : Prop} (hw : Region.wanted o (yielded ops a.tmps) = true) (f : FuncId) (args : Array Value)
    (hr : (execOp a.eval o).run Tryd.prog w = .ok (.enter f args) w) (R : Value → World → Prop) (hc : Calls Tryd.prog f args w fun e w' => ∃ v, e = .returned v ∧ R v w') (h : ∀ v w', R v w' → K (a.put o.dst v) w') :
    if Region.wanted o (yielded ops a.tmps) = true then Oper.wp Tryd.prog o a w K Q else E := by
  rw [if_pos hw]
  unfold Oper.wp
  rw [hr]
  exact hc.mono (by rintro e w' ⟨v, rfl, hR⟩; exact h v w' hR)

theorem field34 (x z : Nat) (y : Nat) (W : World) : (Instr.field 34 (.agg #[.int .u8 (x : Nat), .int .i64 (y : Nat), .int .i64 (z : Nat)]) 1).run Tryd.prog W = .ok (.int .i64 (y : Nat)) W := by kernel_rfl

set_option maxHeartbeats 4000000 in
theorem gives_yes (p bx wt l L D at_ a1 : Nat) (w W1 : World) (hW1 : W1 = w.alloc (.cells #[.int .u8 (l : Nat), .int .i64 (L : Nat), .int .i64 (D : Nat)] 34)) (hbx : bx = w.heap.size)
    (HC : Hid (∀ W, Below W1.heap.size W1 W → W.cell? ⟨p, 5, none⟩ = some (.bool true) ∧ W.cell? ⟨p, 1, none⟩ = some (.int .i64 (wt : Nat)) ∧ W.cell? ⟨bx, 1, none⟩ = some (.int .i64 (L : Nat))))
    (HT : Hid (∀ W, (∃ q, W = W1.drewN q) → Calls Tryd.prog 21 #[.pointer (some ⟨p, 0, none⟩), .int .i64 (a1 : Nat)] W fun e w' => (∃ t, e = .returned (tv t) ∧ t.len ≤ 258) ∧ Below W1.heap.size W1 w'))
    (HBW : Hid (∀ W, Below W1.heap.size W1 W → Below w.heap.size w W))
    (e1 : IntKind.i64.wrap (a1 : Int) = (a1 : Int)) (e2 : (at_ : Int) + 1 = (a1 : Int)) (h1 : (L : Int) < wt) (h0n : 0 < L) :
    Calls Tryd.prog 23 #[.pointer (some ⟨p, 0, none⟩), .int .i64 at_, tv ⟨l, L, D⟩] w fun e w' => (∃ c : Bool, e = .returned (.bool c)) ∧ Below w.heap.size w w' := by
  go_enter Tryd.func23, Tryd.ntmps23
  go_wp2
  rw [← hW1, ← hbx]
  clear hW1 hbx
  refine wp_region_held_drew (S := fun W => W.cell? ⟨p, 5, none⟩ = some (.bool true) ∧ W.cell? ⟨p, 1, none⟩ = some (.int .i64 (wt : Nat)) ∧ W.cell? ⟨bx, 1, none⟩ = some (.int .i64 (L : Nat))) (by kernel_rfl) (HC.out _ (below_drew (Below.refl _ _))) (fun hHeld => ?_)
  refine wpAnyH_take (i := 0) (v := .pointer (some ⟨p, 0, none⟩)) (oi := { dst := some 7, op := Op.move (Operand.tmp 0), type := 45, pos := "match.go:146", after := #[], guard := none }) rfl (by kernel_rfl) (by kernel_rfl) (by kernel_rfl) (fun _ _ _ h => h) (Or.inl ⟨by rfl, fun W hSw => by obtain ⟨hs1, hs2, hs3⟩ := hSw; go_simp⟩) hHeld ?_
  try simp only [Act.put, List.setIfInBounds_toArray, List.set_cons_zero, List.set_cons_succ]
  refine wpAnyH_take (i := 1) (v := .pointer (some ⟨p, 0, none⟩)) (oi := { dst := some 8, op := Op.nilCheck (Operand.tmp 7), type := 0, pos := "match.go:146", after := #[{ on := 0, ground := Ground.data }], guard := none }) rfl (by kernel_rfl) (by kernel_rfl) (by kernel_rfl) (fun _ _ _ h => h) (Or.inl ⟨by rfl, fun W hSw => by obtain ⟨hs1, hs2, hs3⟩ := hSw; go_simp⟩) hHeld ?_
  try simp only [Act.put, List.setIfInBounds_toArray, List.set_cons_zero, List.set_cons_succ]
  refine wpAnyH_take (i := 2) (v := .pointer (some ⟨p, 5, none⟩)) (oi := { dst := some 9, op := Op.fieldAddr 49 (Operand.tmp 8) 4, type := 0, pos := "match.go:146", after := #[{ on := 1, ground := Ground.data }], guard := none }) rfl (by kernel_rfl) (by kernel_rfl) (by kernel_rfl) (fun _ _ _ h => h) (Or.inl ⟨by rfl, fun W hSw => by obtain ⟨hs1, hs2, hs3⟩ := hSw; go_simp⟩) hHeld ?_
  try simp only [Act.put, List.setIfInBounds_toArray, List.set_cons_zero, List.set_cons_succ]
  refine wpAnyH_take (i := 3) (v := .bool true) (oi := { dst := some 10, op := Op.load 4 (Operand.tmp 9), type := 4, pos := "match.go:146", after := #[{ on := 2, ground := Ground.data }], guard := none }) rfl (by kernel_rfl) (by kernel_rfl) (by kernel_rfl) (fun _ _ _ h => h) (Or.inl ⟨by rfl, fun W hSw => by obtain ⟨hs1, hs2, hs3⟩ := hSw; go_simp⟩) hHeld ?_
  try simp only [Act.put, List.setIfInBounds_toArray, List.set_cons_zero, List.set_cons_succ]
  refine wpAnyH_take (i := 4) (v := .bool true) (oi := { dst := some 11, op := Op.move (Operand.tmp 10), type := 4, pos := "match.go:146", after := #[{ on := 3, ground := Ground.data }], guard := none }) rfl (by kernel_rfl) (by kernel_rfl) (by kernel_rfl) (fun _ _ _ h => h) (Or.inl ⟨by rfl, fun W hSw => by obtain ⟨hs1, hs2, hs3⟩ := hSw; go_simp⟩) hHeld ?_
  try simp only [Act.put, List.setIfInBounds_toArray, List.set_cons_zero, List.set_cons_succ]
  refine wpAnyH_take (i := 5) (v := .pointer (some ⟨bx, 1, none⟩)) (oi := { dst := some 12, op := Op.fieldAddr 34 (Operand.tmp 5) 1, type := 0, pos := "match.go:146", after := #[{ on := 4, ground := Ground.guard }], guard := some (4, true) }) rfl (by kernel_rfl) (by kernel_rfl) (by kernel_rfl) (fun _ _ _ h => h) (Or.inl ⟨by rfl, fun W hSw => by obtain ⟨hs1, hs2, hs3⟩ := hSw; go_simp⟩) hHeld ?_
  try simp only [Act.put, List.setIfInBounds_toArray, List.set_cons_zero, List.set_cons_succ]
  refine wpAnyH_take (i := 6) (v := .int .i64 (L : Nat)) (oi := { dst := some 13, op := Op.load 3 (Operand.tmp 12), type := 3, pos := "match.go:146", after := #[{ on := 5, ground := Ground.data }, { on := 4, ground := Ground.guard }], guard := some (4, true) }) rfl (by kernel_rfl) (by kernel_rfl) (by kernel_rfl) (fun _ _ _ h => h) (Or.inl ⟨by rfl, fun W hSw => by obtain ⟨hs1, hs2, hs3⟩ := hSw; go_simp⟩) hHeld ?_
  try simp only [Act.put, List.setIfInBounds_toArray, List.set_cons_zero, List.set_cons_succ]
  refine wpAnyH_take (i := 7) (v := .bool true) (oi := { dst := some 14, op := Op.binOp BinOp.gtr 3 (Operand.tmp 13) (Operand.const (Value.int IntKind.i64 0)) 3, type := 4, pos := "match.go:146", after := #[{ on := 6, ground := Ground.data }, { on := 4, ground := Ground.guard }], guard := some (4, true) }) rfl (by kernel_rfl) (by kernel_rfl) (by kernel_rfl) (fun _ _ _ h => h) (Or.inl ⟨by rfl, fun W hSw => by obtain ⟨hs1, hs2, hs3⟩ := hSw; go_simp⟩) hHeld ?_
  try simp only [Act.put, List.setIfInBounds_toArray, List.set_cons_zero, List.set_cons_succ]
  refine wpAnyH_take (i := 8) (v := .bool true) (oi := { dst := some 15, op := Op.pick (Operand.tmp 11) (Operand.tmp 14) (Operand.const (Value.bool false)), type := 4, pos := "match.go:146", after := #[{ on := 4, ground := Ground.data }, { on := 7, ground := Ground.data }], guard := none }) rfl (by kernel_rfl) (by kernel_rfl) (by kernel_rfl) (fun _ _ _ h => h) (Or.inl ⟨by rfl, fun W hSw => by obtain ⟨hs1, hs2, hs3⟩ := hSw; go_simp⟩) hHeld ?_
  try simp only [Act.put, List.setIfInBounds_toArray, List.set_cons_zero, List.set_cons_succ]
  refine wpAnyH_take (i := 9) (v := .bool true) (oi := { dst := some 16, op := Op.move (Operand.tmp 15), type := 4, pos := "match.go:146", after := #[{ on := 8, ground := Ground.data }, { on := 4, ground := Ground.chain }], guard := none }) rfl (by kernel_rfl) (by kernel_rfl) (by kernel_rfl) (fun _ _ _ h => h) (Or.inl ⟨by rfl, fun W hSw => by obtain ⟨hs1, hs2, hs3⟩ := hSw; go_simp⟩) hHeld ?_
  try simp only [Act.put, List.setIfInBounds_toArray, List.set_cons_zero, List.set_cons_succ]
  refine wpAnyH_take (i := 10) (v := .pointer (some ⟨bx, 1, none⟩)) (oi := { dst := some 17, op := Op.fieldAddr 34 (Operand.tmp 5) 1, type := 0, pos := "match.go:146", after := #[{ on := 9, ground := Ground.guard }], guard := some (9, true) }) rfl (by kernel_rfl) (by kernel_rfl) (by kernel_rfl) (fun _ _ _ h => h) (Or.inl ⟨by rfl, fun W hSw => by obtain ⟨hs1, hs2, hs3⟩ := hSw; go_simp⟩) hHeld ?_
  try simp only [Act.put, List.setIfInBounds_toArray, List.set_cons_zero, List.set_cons_succ]
  refine wpAnyH_take (i := 11) (v := .int .i64 (L : Nat)) (oi := { dst := some 18, op := Op.load 3 (Operand.tmp 17), type := 3, pos := "match.go:146", after := #[{ on := 10, ground := Ground.data }, { on := 9, ground := Ground.guard }], guard := some (9, true) }) rfl (by kernel_rfl) (by kernel_rfl) (by kernel_rfl) (fun _ _ _ h => h) (Or.inl ⟨by rfl, fun W hSw => by obtain ⟨hs1, hs2, hs3⟩ := hSw; go_simp⟩) hHeld ?_
  try simp only [Act.put, List.setIfInBounds_toArray, List.set_cons_zero, List.set_cons_succ]
  refine wpAnyH_take (i := 12) (v := .pointer (some ⟨p, 0, none⟩)) (oi := { dst := some 19, op := Op.move (Operand.tmp 0), type := 45, pos := "match.go:146", after := #[{ on := 9, ground := Ground.guard }], guard := some (9, true) }) rfl (by kernel_rfl) (by kernel_rfl) (by kernel_rfl) (fun _ _ _ h => h) (Or.inl ⟨by rfl, fun W hSw => by obtain ⟨hs1, hs2, hs3⟩ := hSw; go_simp⟩) hHeld ?_
  try simp only [Act.put, List.setIfInBounds_toArray, List.set_cons_zero, List.set_cons_succ]
  refine wpAnyH_take (i := 13) (v := .pointer (some ⟨p, 0, none⟩)) (oi := { dst := some 20, op := Op.nilCheck (Operand.tmp 19), type := 0, pos := "match.go:146", after := #[{ on := 12, ground := Ground.data }, { on := 9, ground := Ground.guard }], guard := some (9, true) }) rfl (by kernel_rfl) (by kernel_rfl) (by kernel_rfl) (fun _ _ _ h => h) (Or.inl ⟨by rfl, fun W hSw => by obtain ⟨hs1, hs2, hs3⟩ := hSw; go_simp⟩) hHeld ?_
  try simp only [Act.put, List.setIfInBounds_toArray, List.set_cons_zero, List.set_cons_succ]
  refine wpAnyH_take (i := 14) (v := .pointer (some ⟨p, 0, none⟩)) (oi := { dst := some 21, op := Op.fieldAddr 49 (Operand.tmp 20) 0, type := 0, pos := "match.go:146", after := #[{ on := 13, ground := Ground.data }, { on := 9, ground := Ground.guard }], guard := some (9, true) }) rfl (by kernel_rfl) (by kernel_rfl) (by kernel_rfl) (fun _ _ _ h => h) (Or.inl ⟨by rfl, fun W hSw => by obtain ⟨hs1, hs2, hs3⟩ := hSw; go_simp⟩) hHeld ?_
  try simp only [Act.put, List.setIfInBounds_toArray, List.set_cons_zero, List.set_cons_succ]
  refine wpAnyH_take (i := 15) (v := .pointer (some ⟨p, 1, none⟩)) (oi := { dst := some 22, op := Op.fieldAddr 42 (Operand.tmp 21) 1, type := 0, pos := "match.go:146", after := #[{ on := 14, ground := Ground.data }, { on := 9, ground := Ground.guard }], guard := some (9, true) }) rfl (by kernel_rfl) (by kernel_rfl) (by kernel_rfl) (fun _ _ _ h => h) (Or.inl ⟨by rfl, fun W hSw => by obtain ⟨hs1, hs2, hs3⟩ := hSw; go_simp⟩) hHeld ?_
  try simp only [Act.put, List.setIfInBounds_toArray, List.set_cons_zero, List.set_cons_succ]
  refine wpAnyH_take (i := 16) (v := .int .i64 (wt : Nat)) (oi := { dst := some 23, op := Op.load 3 (Operand.tmp 22), type := 3, pos := "match.go:146", after := #[{ on := 15, ground := Ground.data }, { on := 9, ground := Ground.guard }], guard := some (9, true) }) rfl (by kernel_rfl) (by kernel_rfl) (by kernel_rfl) (fun _ _ _ h => h) (Or.inl ⟨by rfl, fun W hSw => by obtain ⟨hs1, hs2, hs3⟩ := hSw; go_simp⟩) hHeld ?_
  try simp only [Act.put, List.setIfInBounds_toArray, List.set_cons_zero, List.set_cons_succ]
  refine wpAnyH_take (i := 17) (v := .bool true) (oi := { dst := some 24, op := Op.binOp BinOp.lss 3 (Operand.tmp 18) (Operand.tmp 23) 3, type := 4, pos := "match.go:146", after := #[{ on := 11, ground := Ground.data }, { on := 16, ground := Ground.data }, { on := 9, ground := Ground.guard }], guard := some (9, true) }) rfl (by kernel_rfl) (by kernel_rfl) (by kernel_rfl) (fun _ _ _ h => h) (Or.inl ⟨by rfl, fun W hSw => by obtain ⟨hs1, hs2, hs3⟩ := hSw; go_simp⟩) hHeld ?_
  try simp only [Act.put, List.setIfInBounds_toArray, List.set_cons_zero, List.set_cons_succ]
  refine wpAnyH_take (i := 18) (v := .bool true) (oi := { dst := some 25, op := Op.pick (Operand.tmp 16) (Operand.tmp 24) (Operand.const (Value.bool false)), type := 4, pos := "match.go:146", after := #[{ on := 9, ground := Ground.data }, { on := 17, ground := Ground.data }], guard := none }) rfl (by kernel_rfl) (by kernel_rfl) (by kernel_rfl) (fun _ _ _ h => h) (Or.inl ⟨by rfl, fun W hSw => by obtain ⟨hs1, hs2, hs3⟩ := hSw; go_simp⟩) hHeld ?_
  try simp only [Act.put, List.setIfInBounds_toArray, List.set_cons_zero, List.set_cons_succ]
  refine wpAnyH_take (i := 19) (v := .bool true) (oi := { dst := some 26, op := Op.move (Operand.tmp 25), type := 4, pos := "match.go:146", after := #[{ on := 18, ground := Ground.data }, { on := 9, ground := Ground.chain }], guard := none }) rfl (by kernel_rfl) (by kernel_rfl) (by kernel_rfl) (fun _ _ _ h => h) (Or.inl ⟨by rfl, fun W hSw => by obtain ⟨hs1, hs2, hs3⟩ := hSw; go_simp⟩) hHeld ?_
  try simp only [Act.put, List.setIfInBounds_toArray, List.set_cons_zero, List.set_cons_succ]
  refine wpAnyH_take (i := 20) (v := .pointer (some ⟨p, 0, none⟩)) (oi := { dst := some 27, op := Op.move (Operand.tmp 0), type := 45, pos := "match.go:146", after := #[{ on := 19, ground := Ground.guard }], guard := some (19, true) }) rfl (by kernel_rfl) (by kernel_rfl) (by kernel_rfl) (fun _ _ _ h => h) (Or.inl ⟨by rfl, fun W hSw => by obtain ⟨hs1, hs2, hs3⟩ := hSw; go_simp⟩) hHeld ?_
  try simp only [Act.put, List.setIfInBounds_toArray, List.set_cons_zero, List.set_cons_succ]
  refine wpAnyH_take (i := 21) (v := .int .i64 (at_ : Nat)) (oi := { dst := some 28, op := Op.move (Operand.tmp 1), type := 3, pos := "match.go:146", after := #[{ on := 19, ground := Ground.guard }], guard := some (19, true) }) rfl (by kernel_rfl) (by kernel_rfl) (by kernel_rfl) (fun _ _ _ h => h) (Or.inl ⟨by rfl, fun W hSw => by obtain ⟨hs1, hs2, hs3⟩ := hSw; go_simp⟩) hHeld ?_
  try simp only [Act.put, List.setIfInBounds_toArray, List.set_cons_zero, List.set_cons_succ]
  refine wpAnyH_take (i := 22) (v := .int .i64 (a1 : Nat)) (oi := { dst := some 29, op := Op.binOp BinOp.add 3 (Operand.tmp 28) (Operand.const (Value.int IntKind.i64 1)) 3, type := 3, pos := "match.go:146", after := #[{ on := 21, ground := Ground.data }, { on := 19, ground := Ground.guard }], guard := some (19, true) }) rfl (by kernel_rfl) (by kernel_rfl) (by kernel_rfl) (fun _ _ _ h => h) (Or.inl ⟨by rfl, fun W hSw => by obtain ⟨hs1, hs2, hs3⟩ := hSw; go_simp⟩) hHeld ?_
  try simp only [Act.put, List.setIfInBounds_toArray, List.set_cons_zero, List.set_cons_succ]
  refine wpAnyH_take (i := 25) (v := .pointer (some ⟨bx, 1, none⟩)) (oi := { dst := some 32, op := Op.fieldAddr 34 (Operand.tmp 5) 1, type := 0, pos := "match.go:146", after := #[{ on := 19, ground := Ground.guard }], guard := some (19, true) }) rfl (by kernel_rfl) (by kernel_rfl) (by kernel_rfl) (fun _ _ _ h => h) (Or.inl ⟨by rfl, fun W hSw => by obtain ⟨hs1, hs2, hs3⟩ := hSw; go_simp⟩) hHeld ?_
  try simp only [Act.put, List.setIfInBounds_toArray, List.set_cons_zero, List.set_cons_succ]
  refine wpAnyH_take (i := 26) (v := .int .i64 (L : Nat)) (oi := { dst := some 33, op := Op.load 3 (Operand.tmp 32), type := 3, pos := "match.go:146", after := #[{ on := 25, ground := Ground.data }, { on := 19, ground := Ground.guard }], guard := some (19, true) }) rfl (by kernel_rfl) (by kernel_rfl) (by kernel_rfl) (fun _ _ _ h => h) (Or.inl ⟨by rfl, fun W hSw => by obtain ⟨hs1, hs2, hs3⟩ := hSw; go_simp⟩) hHeld ?_
  try simp only [Act.put, List.setIfInBounds_toArray, List.set_cons_zero, List.set_cons_succ]
  refine wpAnyH_ready (rs := [23]) (by kernel_rfl) (by simp) ?_
  refine AllReadyH.cons (o := { dst := some 30, op := Op.call { callee := Callee.value (Operand.func 21), args := #[Operand.tmp 27, Operand.tmp 29], argTypes := #[45, 3] }, type := 34, pos := "match.go:146", after := #[{ on := 20, ground := Ground.data }, { on := 22, ground := Ground.data }, { on := 19, ground := Ground.chain }, { on := 19, ground := Ground.guard }], guard := some (19, true) }) rfl (fun K hK => ?_) AllReadyH.nil
  refine step_call (by rfl) _ _ (run_call2 (.func 21) (.tmp 27) (.tmp 29) _ 21 #[] (.pointer (some ⟨p, 0, none⟩)) (.int .i64 (a1 : Nat)) (fun _ => enter21 _ _) rfl rfl rfl rfl) (fun v W => (∃ tl tL tD : Nat, v = .agg #[.int .u8 (tl : Nat), .int .i64 (tL : Nat), .int .i64 (tD : Nat)]) ∧ Below W1.heap.size W1 W) ?_ ?_
  · refine (HT.out _ ⟨1, rfl⟩).mono ?_
    rintro e W ⟨⟨⟨tl, tL, tD⟩, rfl, _⟩, hb⟩
    exact ⟨_, rfl, ⟨tl, tL, tD, rfl⟩, hb⟩
  rintro v W2 ⟨⟨tl, tL, tD, rfl⟩, hb2⟩
  have HB2 := Lib.hid hb2
  refine hK.out _ _ (HC.out _ hb2) (fun hHeld => ?_)
  clear hK K hb2
  have hfd := fun W => field34 tl tD tL W
  try simp only [Act.put, List.setIfInBounds_toArray, List.set_cons_zero, List.set_cons_succ]
  refine wpAnyH_take (i := 24) (v := .int .i64 (tL : Nat)) (oi := { dst := some 31, op := Op.field 34 (Operand.tmp 30) 1, type := 3, pos := "match.go:146", after := #[{ on := 23, ground := Ground.data }, { on := 19, ground := Ground.guard }], guard := some (19, true) }) rfl (by kernel_rfl) (by kernel_rfl) (by kernel_rfl) (fun _ _ _ h => h) (Or.inl ⟨by rfl, fun W hSw => by obtain ⟨hs1, hs2, hs3⟩ := hSw; go_simp⟩) hHeld ?_
  try simp only [Act.put, List.setIfInBounds_toArray, List.set_cons_zero, List.set_cons_succ]
  refine wpAnyH_take (i := 27) (v := .bool (decide (L < tL))) (oi := { dst := some 34, op := Op.binOp BinOp.gtr 3 (Operand.tmp 31) (Operand.tmp 33) 3, type := 4, pos := "match.go:146", after := #[{ on := 24, ground := Ground.data }, { on := 26, ground := Ground.data }, { on := 19, ground := Ground.guard }], guard := some (19, true) }) rfl (by kernel_rfl) (by kernel_rfl) (by kernel_rfl) (fun _ _ _ h => h) (Or.inl ⟨by rfl, fun W hSw => by obtain ⟨hs1, hs2, hs3⟩ := hSw; go_simp⟩) hHeld ?_
  try simp only [Act.put, List.setIfInBounds_toArray, List.set_cons_zero, List.set_cons_succ]
  refine wpAnyH_take (i := 28) (v := .bool (decide (L < tL))) (oi := { dst := some 35, op := Op.pick (Operand.tmp 26) (Operand.tmp 34) (Operand.const (Value.bool false)), type := 4, pos := "match.go:146", after := #[{ on := 19, ground := Ground.data }, { on := 27, ground := Ground.data }], guard := none }) rfl (by kernel_rfl) (by kernel_rfl) (by kernel_rfl) (fun _ _ _ h => h) (Or.inl ⟨by rfl, fun W hSw => by obtain ⟨hs1, hs2, hs3⟩ := hSw; go_simp⟩) hHeld ?_
  try simp only [Act.put, List.setIfInBounds_toArray, List.set_cons_zero, List.set_cons_succ]
  refine wpAnyH_take (i := 29) (v := .bool (decide (L < tL))) (oi := { dst := some 6, op := Op.assign (Operand.tmp 35), type := 4, pos := "match.go:146", after := #[{ on := 28, ground := Ground.data }, { on := 23, ground := Ground.chain }, { on := 0, ground := Ground.phase }, { on := 1, ground := Ground.phase }, { on := 2, ground := Ground.phase }, { on := 3, ground := Ground.phase }, { on := 4, ground := Ground.phase }, { on := 5, ground := Ground.phase }, { on := 6, ground := Ground.phase }, { on := 7, ground := Ground.phase }, { on := 8, ground := Ground.phase }, { on := 9, ground := Ground.phase }, { on := 10, ground := Ground.phase }, { on := 11, ground := Ground.phase }, { on := 12, ground := Ground.phase }, { on := 13, ground := Ground.phase }, { on := 14, ground := Ground.phase }, { on := 15, ground := Ground.phase }, { on := 16, ground := Ground.phase }, { on := 17, ground := Ground.phase }, { on := 18, ground := Ground.phase }, { on := 19, ground := Ground.phase }, { on := 20, ground := Ground.phase }, { on := 21, ground := Ground.phase }, { on := 22, ground := Ground.phase }, { on := 23, ground := Ground.phase }, { on := 24, ground := Ground.phase }, { on := 25, ground := Ground.phase }, { on := 26, ground := Ground.phase }, { on := 27, ground := Ground.phase }, { on := 28, ground := Ground.phase }], guard := none }) rfl (by kernel_rfl) (by kernel_rfl) (by kernel_rfl) (fun _ _ _ h => h) (Or.inl ⟨by rfl, fun W hSw => by obtain ⟨hs1, hs2, hs3⟩ := hSw; go_simp⟩) hHeld ?_
  try simp only [Act.put, List.setIfInBounds_toArray, List.set_cons_zero, List.set_cons_succ]
  refine wpAnyH_done (by kernel_rfl) ?_ _
  clear hHeld
  go_wp2
  go_ret
  exact ⟨⟨_, rfl⟩, HBW.out _ HB2.out⟩
end Go.Proofs.YtjjjchdocnoabaaDoor
