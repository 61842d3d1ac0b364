import Derived.Test.YtnnkegpnjedneaaDoorX4

/-
  Contract: the closure that tells items out of bounds.
-/
namespace Go.Proofs.YtnnkegpnjedneaaDoor.Z
open Go.RowKit
set_option maxRecDepth 100000

/-- The closure has told. -/
def Wrote (w : World) (b : Bool) (e : Ending) (w' : World) : Prop := e = .returned (.bool b) ∧ Below w.heap.size w w'

set_option maxHeartbeats 4000000 in
set_option maxRecDepth 100000 in
theorem wr_a (g n c l m d : Nat) (ao : Option Addr) (s x u y : Int) (w : World) (hg : w.cell? ⟨g, 0, none⟩ = some (.slice ao n c)) (hl : spl s = l) (hm : spm s = m) (_e1 : IntKind.i64.wrap ((m : Int) - l) = d)
    (_e2 : IntKind.i64.wrap ((l : Int) + x) = u) (_e3 : IntKind.i64.wrap ((320 : Int) - n) = y) (h1 : Bad 0 18 s) :
    Calls Tryd.prog 97 #[.agg #[.int .i64 s, .int .i64 x], .pointer (some ⟨g, 0, none⟩)] w (Wrote w true) := by
  have HGL := Lib.hid (World.block_lt_of_cell? w _ hg)
  have HG := Lib.hid hg
  have HSP := Lib.hid (And.intro hl hm)
  have H1 := Lib.hid h1
  clear h1
  clear hl hm hg
  obtain ⟨B, hB⟩ : ∃ B, B = w.heap.size := ⟨_, rfl⟩
  have HC : Hid (∀ W, Below (B + 1) (w.alloc (.cells #[.int .i64 s, .int .i64 x] 147)) W → W.cell? ⟨B, 0, none⟩ = some (.int .i64 s) ∧ W.cell? ⟨B, 1, none⟩ = some (.int .i64 x) ∧ W.cell? ⟨g, 0, none⟩ = some (.slice ao n c)) := Lib.hid fun W hb => by
    subst hB
    refine ⟨(hb.cell (p := ⟨_, 0, none⟩) (Nat.lt_succ_self _)).trans ?_, (hb.cell (p := ⟨_, 1, none⟩) (Nat.lt_succ_self _)).trans ?_, (hb.cell (p := ⟨g, 0, none⟩) (Nat.lt_succ_of_lt HGL.out)).trans ?_⟩
    · simp
    · simp
    · have h1 : g ≠ w.heap.size := Nat.ne_of_lt HGL.out
      have h2 := HG.out
      simp [World.cell?_alloc_old, h1, h2]
  have HB0 : Hid (Below (B + 1) (w.alloc (.cells #[.int .i64 s, .int .i64 x] 147)) (w.alloc (.cells #[.int .i64 s, .int .i64 x] 147)).drew) := Lib.hid (by
    subst hB
    have h := (Below.refl (w.alloc (.cells #[.int .i64 s, .int .i64 x] 147)).heap.size (w.alloc (.cells #[.int .i64 s, .int .i64 x] 147))).drew
    simpa using h)
  have HF : Hid (∀ W, Below (B + 1) (w.alloc (.cells #[.int .i64 s, .int .i64 x] 147)) W → Below w.heap.size w W) := Lib.hid fun W hb => by
    subst hB
    exact ((Below.refl _ w).alloc (Nat.le_refl _) _).trans (hb.mono (Nat.le_succ _))
  have HSZ : Hid (B + 1 ≤ (w.alloc (.cells #[.int .i64 s, .int .i64 x] 147)).heap.size) := Lib.hid (by subst hB; simp)
  go_enter Tryd.func97, Tryd.ntmps97
  go_upto_region 2 with (go_at_call 98; refine (span_any _ _).mono ?_; rintro e w5 ⟨rfl, rfl⟩; rw [HSP.out.1, HSP.out.2])
  rw [← hB]
  clear hB
  generalize (w.alloc (.cells #[.int .i64 s, .int .i64 x] 147)) = w3 at *
  refine wp_region_held_drew (S := fun W => W.cell? ⟨B, 0, none⟩ = some (.int .i64 s) ∧ W.cell? ⟨B, 1, none⟩ = some (.int .i64 x) ∧ W.cell? ⟨g, 0, none⟩ = some (.slice ao n c)) (by kernel_rfl) (HC.out _ HB0.out) (fun hHeld => ?_)
  refine wpAnyH_take (i := 1) (v := .pointer (some ⟨B, 0, none⟩)) (oi := { dst := some 13, op := Op.fieldAddr 147 (Operand.tmp 2) 0, type := 0, pos := "lens.go:97", after := #[], guard := none }) rfl (by kernel_rfl) (by kernel_rfl) (by kernel_rfl) (fun _ _ _ h => h) (Or.inl ⟨by rfl, fun W hSw => by obtain ⟨hs1, hs2, hs3⟩ := hSw; go_simp⟩) hHeld ?_
  try simp only [Act.put, List.setIfInBounds_toArray, List.set_cons_zero, List.set_cons_succ]
  refine wpAnyH_take (i := 2) (v := .int .i64 s) (oi := { dst := some 14, op := Op.load 3 (Operand.tmp 13), type := 3, pos := "lens.go:97", after := #[{ on := 1, ground := Ground.data }], guard := none }) rfl (by kernel_rfl) (by kernel_rfl) (by kernel_rfl) (fun _ _ _ h => h) (Or.inl ⟨by rfl, fun W hSw => by obtain ⟨hs1, hs2, hs3⟩ := hSw; go_simp⟩) hHeld ?_
  try simp only [Act.put, List.setIfInBounds_toArray, List.set_cons_zero, List.set_cons_succ]
  refine wpAnyH_ready (rs := [0]) (by kernel_rfl) (by simp) ?_
  refine AllReadyH.cons (o := { dst := some 12, op := Op.call { callee := Callee.value (Operand.func 99), args := #[Operand.const (Value.int IntKind.i64 0), Operand.const (Value.int IntKind.i64 18)], argTypes := #[3, 3] }, type := 33, pos := "lens.go:97", after := #[], guard := none }) rfl (fun K hK => ?_) AllReadyH.nil
  refine step_call (by rfl) _ _ (run_call2 (.func 99) (.const (.int .i64 0)) (.const (.int .i64 18)) _ 99 #[] (.int .i64 0) (.int .i64 18) (fun _ => enter21 _ _) rfl rfl rfl rfl) (fun v W => ∃ p q, v = fnOut p q ∧ Kept W p q 0 18 ∧ Below (B + 1) w3 W) ?_ ?_
  · refine (outside_any 0 18 _).mono ?_
    rintro e w1 ⟨p, q, rfl, hk, hb, hp, hq⟩
    exact ⟨_, rfl, p, q, rfl, hk, HB0.out.trans (hb.mono (Nat.le_trans HSZ.out HB0.out.size))⟩
  rintro v1 w1 ⟨p1, q1, rfl, hk, hb⟩
  have HK1 := Lib.hid hk
  have HB1 := Lib.hid hb
  clear hk hb
  refine hK.out _ _ (HC.out _ HB1.out) (fun hHeld => ?_)
  clear hK K
  try simp only [Act.put, List.setIfInBounds_toArray, List.set_cons_zero, List.set_cons_succ]
  refine wpAnyH_ready (rs := [3]) (by kernel_rfl) (by simp) ?_
  refine AllReadyH.cons (o := { dst := some 15, op := Op.call { callee := Callee.value (Operand.tmp 12), args := #[Operand.tmp 14], argTypes := #[3] }, type := 4, pos := "lens.go:97", after := #[{ on := 0, ground := Ground.data }, { on := 2, ground := Ground.data }, { on := 0, ground := Ground.chain }], guard := none }) rfl (fun K hK => ?_) AllReadyH.nil
  refine step_call (by rfl) _ _ (run_call1 (.tmp 12) (.tmp 14) _ 101 #[.pointer (some ⟨p1, 0, none⟩), .pointer (some ⟨q1, 0, none⟩)] (.int .i64 s) (fun _ => enter35 _ _) rfl rfl rfl) (fun v W => v = .bool true ∧ W = w1) ?_ ?_
  · refine (bad_yes p1 q1 0 18 s _ HK1.out H1.out).mono ?_
    rintro e W ⟨rfl, rfl⟩
    exact ⟨_, rfl, rfl, rfl⟩
  rintro v W ⟨rfl, rfl⟩
  refine hK.out _ _ (HC.out _ HB1.out) (fun hHeld => ?_)
  clear hK K
  try simp only [Act.put, List.setIfInBounds_toArray, List.set_cons_zero, List.set_cons_succ]
  refine wpAnyH_take (i := 4) (v := .bool true) (oi := { dst := some 16, op := Op.move (Operand.tmp 15), type := 4, pos := "lens.go:97", after := #[{ on := 3, ground := Ground.data }, { on := 3, ground := Ground.chain }], guard := none }) rfl (by kernel_rfl) (by kernel_rfl) (by kernel_rfl) (fun _ _ _ h => h) (Or.inl ⟨by rfl, fun W hSw => by obtain ⟨hs1, hs2, hs3⟩ := hSw; go_simp⟩) hHeld ?_
  try simp only [Act.put, List.setIfInBounds_toArray, List.set_cons_zero, List.set_cons_succ]
  refine wpAnyH_take (i := 5) (v := undef) (oi := { dst := some 17, op := Op.move (Operand.tmp 5), type := 3, pos := "lens.go:97", after := #[{ on := 4, ground := Ground.guard }], guard := some (4, false) }) rfl (by kernel_rfl) (by kernel_rfl) (by kernel_rfl) (fun _ _ _ h => h) (Or.inr ⟨by rfl, rfl⟩) hHeld ?_
  try simp only [Act.put, List.setIfInBounds_toArray, List.set_cons_zero, List.set_cons_succ]
  refine wpAnyH_take (i := 6) (v := undef) (oi := { dst := some 18, op := Op.move (Operand.tmp 4), type := 3, pos := "lens.go:97", after := #[{ on := 4, ground := Ground.guard }], guard := some (4, false) }) rfl (by kernel_rfl) (by kernel_rfl) (by kernel_rfl) (fun _ _ _ h => h) (Or.inr ⟨by rfl, rfl⟩) hHeld ?_
  try simp only [Act.put, List.setIfInBounds_toArray, List.set_cons_zero, List.set_cons_succ]
  refine wpAnyH_take (i := 7) (v := undef) (oi := { dst := some 19, op := Op.binOp BinOp.sub 3 (Operand.tmp 17) (Operand.tmp 18) 3, type := 3, pos := "lens.go:97", after := #[{ on := 5, ground := Ground.data }, { on := 6, ground := Ground.data }, { on := 4, ground := Ground.guard }], guard := some (4, false) }) rfl (by kernel_rfl) (by kernel_rfl) (by kernel_rfl) (fun _ _ _ h => h) (Or.inr ⟨by rfl, rfl⟩) hHeld ?_
  try simp only [Act.put, List.setIfInBounds_toArray, List.set_cons_zero, List.set_cons_succ]
  refine wpAnyH_take (i := 8) (v := undef) (oi := { dst := some 20, op := Op.call { callee := Callee.value (Operand.func 99), args := #[Operand.const (Value.int IntKind.i64 0), Operand.tmp 19], argTypes := #[3, 3] }, type := 33, pos := "lens.go:97", after := #[{ on := 7, ground := Ground.data }, { on := 4, ground := Ground.chain }, { on := 4, ground := Ground.guard }], guard := some (4, false) }) rfl (by kernel_rfl) (by kernel_rfl) (by kernel_rfl) (fun _ _ _ h => h) (Or.inr ⟨by rfl, rfl⟩) hHeld ?_
  try simp only [Act.put, List.setIfInBounds_toArray, List.set_cons_zero, List.set_cons_succ]
  refine wpAnyH_take (i := 9) (v := undef) (oi := { dst := some 21, op := Op.fieldAddr 147 (Operand.tmp 2) 1, type := 0, pos := "lens.go:97", after := #[{ on := 4, ground := Ground.guard }], guard := some (4, false) }) rfl (by kernel_rfl) (by kernel_rfl) (by kernel_rfl) (fun _ _ _ h => h) (Or.inr ⟨by rfl, rfl⟩) hHeld ?_
  try simp only [Act.put, List.setIfInBounds_toArray, List.set_cons_zero, List.set_cons_succ]
  refine wpAnyH_take (i := 10) (v := undef) (oi := { dst := some 22, op := Op.load 3 (Operand.tmp 21), type := 3, pos := "lens.go:97", after := #[{ on := 9, ground := Ground.data }, { on := 4, ground := Ground.guard }], guard := some (4, false) }) rfl (by kernel_rfl) (by kernel_rfl) (by kernel_rfl) (fun _ _ _ h => h) (Or.inr ⟨by rfl, rfl⟩) hHeld ?_
  try simp only [Act.put, List.setIfInBounds_toArray, List.set_cons_zero, List.set_cons_succ]
  refine wpAnyH_take (i := 11) (v := undef) (oi := { dst := some 23, op := Op.call { callee := Callee.value (Operand.tmp 20), args := #[Operand.tmp 22], argTypes := #[3] }, type := 4, pos := "lens.go:97", after := #[{ on := 8, ground := Ground.data }, { on := 10, ground := Ground.data }, { on := 8, ground := Ground.chain }, { on := 4, ground := Ground.guard }], guard := some (4, false) }) rfl (by kernel_rfl) (by kernel_rfl) (by kernel_rfl) (fun _ _ _ h => h) (Or.inr ⟨by rfl, rfl⟩) hHeld ?_
  try simp only [Act.put, List.setIfInBounds_toArray, List.set_cons_zero, List.set_cons_succ]
  refine wpAnyH_take (i := 12) (v := .bool true) (oi := { dst := some 24, op := Op.pick (Operand.tmp 16) (Operand.const (Value.bool true)) (Operand.tmp 23), type := 4, pos := "lens.go:97", after := #[{ on := 4, ground := Ground.data }, { on := 11, ground := Ground.data }], guard := none }) rfl (by kernel_rfl) (by kernel_rfl) (by kernel_rfl) (fun _ _ _ h => h) (Or.inl ⟨by rfl, fun W hSw => by obtain ⟨hs1, hs2, hs3⟩ := hSw; go_simp⟩) hHeld ?_
  try simp only [Act.put, List.setIfInBounds_toArray, List.set_cons_zero, List.set_cons_succ]
  refine wpAnyH_take (i := 13) (v := .bool true) (oi := { dst := some 25, op := Op.move (Operand.tmp 24), type := 4, pos := "lens.go:97", after := #[{ on := 12, ground := Ground.data }, { on := 11, ground := Ground.chain }], guard := none }) rfl (by kernel_rfl) (by kernel_rfl) (by kernel_rfl) (fun _ _ _ h => h) (Or.inl ⟨by rfl, fun W hSw => by obtain ⟨hs1, hs2, hs3⟩ := hSw; go_simp⟩) hHeld ?_
  try simp only [Act.put, List.setIfInBounds_toArray, List.set_cons_zero, List.set_cons_succ]
  refine wpAnyH_take (i := 14) (v := undef) (oi := { dst := some 26, op := Op.fieldAddr 147 (Operand.tmp 2) 0, type := 0, pos := "lens.go:97", after := #[{ on := 13, ground := Ground.guard }], guard := some (13, false) }) rfl (by kernel_rfl) (by kernel_rfl) (by kernel_rfl) (fun _ _ _ h => h) (Or.inr ⟨by rfl, rfl⟩) hHeld ?_
  try simp only [Act.put, List.setIfInBounds_toArray, List.set_cons_zero, List.set_cons_succ]
  refine wpAnyH_take (i := 15) (v := undef) (oi := { dst := some 27, op := Op.load 3 (Operand.tmp 26), type := 3, pos := "lens.go:97", after := #[{ on := 14, ground := Ground.data }, { on := 13, ground := Ground.guard }], guard := some (13, false) }) rfl (by kernel_rfl) (by kernel_rfl) (by kernel_rfl) (fun _ _ _ h => h) (Or.inr ⟨by rfl, rfl⟩) hHeld ?_
  try simp only [Act.put, List.setIfInBounds_toArray, List.set_cons_zero, List.set_cons_succ]
  refine wpAnyH_take (i := 16) (v := undef) (oi := { dst := some 28, op := Op.binOp BinOp.eql 3 (Operand.tmp 27) (Operand.const (Value.int IntKind.i64 16)) 3, type := 4, pos := "lens.go:97", after := #[{ on := 15, ground := Ground.data }, { on := 13, ground := Ground.guard }], guard := some (13, false) }) rfl (by kernel_rfl) (by kernel_rfl) (by kernel_rfl) (fun _ _ _ h => h) (Or.inr ⟨by rfl, rfl⟩) hHeld ?_
  try simp only [Act.put, List.setIfInBounds_toArray, List.set_cons_zero, List.set_cons_succ]
  refine wpAnyH_take (i := 17) (v := undef) (oi := { dst := some 29, op := Op.move (Operand.tmp 28), type := 4, pos := "lens.go:97", after := #[{ on := 16, ground := Ground.data }, { on := 13, ground := Ground.chain }, { on := 13, ground := Ground.guard }], guard := some (13, false) }) rfl (by kernel_rfl) (by kernel_rfl) (by kernel_rfl) (fun _ _ _ h => h) (Or.inr ⟨by rfl, rfl⟩) hHeld ?_
  try simp only [Act.put, List.setIfInBounds_toArray, List.set_cons_zero, List.set_cons_succ]
  refine wpAnyH_take (i := 18) (v := undef) (oi := { dst := some 30, op := Op.load 29 (Operand.tmp 1), type := 29, pos := "lens.go:97", after := #[{ on := 17, ground := Ground.guard }], guard := some (17, true) }) rfl (by kernel_rfl) (by kernel_rfl) (by kernel_rfl) (fun _ _ _ h => h) (Or.inr ⟨by rfl, rfl⟩) hHeld ?_
  try simp only [Act.put, List.setIfInBounds_toArray, List.set_cons_zero, List.set_cons_succ]
  refine wpAnyH_take (i := 19) (v := undef) (oi := { dst := some 31, op := Op.call { callee := Callee.builtin Builtin.len, args := #[Operand.tmp 30], argTypes := #[29] }, type := 3, pos := "lens.go:97", after := #[{ on := 18, ground := Ground.data }, { on := 17, ground := Ground.guard }], guard := some (17, true) }) rfl (by kernel_rfl) (by kernel_rfl) (by kernel_rfl) (fun _ _ _ h => h) (Or.inr ⟨by rfl, rfl⟩) hHeld ?_
  try simp only [Act.put, List.setIfInBounds_toArray, List.set_cons_zero, List.set_cons_succ]
  refine wpAnyH_take (i := 20) (v := undef) (oi := { dst := some 32, op := Op.binOp BinOp.eql 3 (Operand.tmp 31) (Operand.const (Value.int IntKind.i64 0)) 3, type := 4, pos := "lens.go:97", after := #[{ on := 19, ground := Ground.data }, { on := 17, ground := Ground.guard }], guard := some (17, true) }) rfl (by kernel_rfl) (by kernel_rfl) (by kernel_rfl) (fun _ _ _ h => h) (Or.inr ⟨by rfl, rfl⟩) hHeld ?_
  try simp only [Act.put, List.setIfInBounds_toArray, List.set_cons_zero, List.set_cons_succ]
  refine wpAnyH_take (i := 21) (v := undef) (oi := { dst := some 33, op := Op.pick (Operand.tmp 29) (Operand.tmp 32) (Operand.const (Value.bool false)), type := 4, pos := "lens.go:97", after := #[{ on := 17, ground := Ground.data }, { on := 20, ground := Ground.data }, { on := 13, ground := Ground.guard }], guard := some (13, false) }) rfl (by kernel_rfl) (by kernel_rfl) (by kernel_rfl) (fun _ _ _ h => h) (Or.inr ⟨by rfl, rfl⟩) hHeld ?_
  try simp only [Act.put, List.setIfInBounds_toArray, List.set_cons_zero, List.set_cons_succ]
  refine wpAnyH_take (i := 22) (v := .bool true) (oi := { dst := some 34, op := Op.pick (Operand.tmp 25) (Operand.const (Value.bool true)) (Operand.tmp 33), type := 4, pos := "lens.go:97", after := #[{ on := 13, ground := Ground.data }, { on := 21, ground := Ground.data }], guard := none }) rfl (by kernel_rfl) (by kernel_rfl) (by kernel_rfl) (fun _ _ _ h => h) (Or.inl ⟨by rfl, fun W hSw => by obtain ⟨hs1, hs2, hs3⟩ := hSw; go_simp⟩) hHeld ?_
  try simp only [Act.put, List.setIfInBounds_toArray, List.set_cons_zero, List.set_cons_succ]
  refine wpAnyH_take (i := 23) (v := .bool true) (oi := { dst := some 35, op := Op.move (Operand.tmp 34), type := 4, pos := "lens.go:97", after := #[{ on := 22, ground := Ground.data }, { on := 17, ground := Ground.chain }], guard := none }) rfl (by kernel_rfl) (by kernel_rfl) (by kernel_rfl) (fun _ _ _ h => h) (Or.inl ⟨by rfl, fun W hSw => by obtain ⟨hs1, hs2, hs3⟩ := hSw; go_simp⟩) hHeld ?_
  try simp only [Act.put, List.setIfInBounds_toArray, List.set_cons_zero, List.set_cons_succ]
  refine wpAnyH_take (i := 24) (v := undef) (oi := { dst := some 36, op := Op.move (Operand.tmp 4), type := 3, pos := "lens.go:97", after := #[{ on := 23, ground := Ground.guard }], guard := some (23, false) }) rfl (by kernel_rfl) (by kernel_rfl) (by kernel_rfl) (fun _ _ _ h => h) (Or.inr ⟨by rfl, rfl⟩) hHeld ?_
  try simp only [Act.put, List.setIfInBounds_toArray, List.set_cons_zero, List.set_cons_succ]
  refine wpAnyH_take (i := 25) (v := undef) (oi := { dst := some 37, op := Op.fieldAddr 147 (Operand.tmp 2) 1, type := 0, pos := "lens.go:97", after := #[{ on := 23, ground := Ground.guard }], guard := some (23, false) }) rfl (by kernel_rfl) (by kernel_rfl) (by kernel_rfl) (fun _ _ _ h => h) (Or.inr ⟨by rfl, rfl⟩) hHeld ?_
  try simp only [Act.put, List.setIfInBounds_toArray, List.set_cons_zero, List.set_cons_succ]
  refine wpAnyH_take (i := 26) (v := undef) (oi := { dst := some 38, op := Op.load 3 (Operand.tmp 37), type := 3, pos := "lens.go:97", after := #[{ on := 25, ground := Ground.data }, { on := 23, ground := Ground.guard }], guard := some (23, false) }) rfl (by kernel_rfl) (by kernel_rfl) (by kernel_rfl) (fun _ _ _ h => h) (Or.inr ⟨by rfl, rfl⟩) hHeld ?_
  try simp only [Act.put, List.setIfInBounds_toArray, List.set_cons_zero, List.set_cons_succ]
  refine wpAnyH_take (i := 27) (v := undef) (oi := { dst := some 39, op := Op.binOp BinOp.add 3 (Operand.tmp 36) (Operand.tmp 38) 3, type := 3, pos := "lens.go:97", after := #[{ on := 24, ground := Ground.data }, { on := 26, ground := Ground.data }, { on := 23, ground := Ground.guard }], guard := some (23, false) }) rfl (by kernel_rfl) (by kernel_rfl) (by kernel_rfl) (fun _ _ _ h => h) (Or.inr ⟨by rfl, rfl⟩) hHeld ?_
  try simp only [Act.put, List.setIfInBounds_toArray, List.set_cons_zero, List.set_cons_succ]
  refine wpAnyH_take (i := 28) (v := undef) (oi := { dst := some 40, op := Op.load 29 (Operand.tmp 1), type := 29, pos := "lens.go:97", after := #[{ on := 23, ground := Ground.guard }], guard := some (23, false) }) rfl (by kernel_rfl) (by kernel_rfl) (by kernel_rfl) (fun _ _ _ h => h) (Or.inr ⟨by rfl, rfl⟩) hHeld ?_
  try simp only [Act.put, List.setIfInBounds_toArray, List.set_cons_zero, List.set_cons_succ]
  refine wpAnyH_take (i := 29) (v := undef) (oi := { dst := some 41, op := Op.call { callee := Callee.builtin Builtin.len, args := #[Operand.tmp 40], argTypes := #[29] }, type := 3, pos := "lens.go:97", after := #[{ on := 28, ground := Ground.data }, { on := 23, ground := Ground.guard }], guard := some (23, false) }) rfl (by kernel_rfl) (by kernel_rfl) (by kernel_rfl) (fun _ _ _ h => h) (Or.inr ⟨by rfl, rfl⟩) hHeld ?_
  try simp only [Act.put, List.setIfInBounds_toArray, List.set_cons_zero, List.set_cons_succ]
  refine wpAnyH_take (i := 30) (v := undef) (oi := { dst := some 42, op := Op.binOp BinOp.sub 3 (Operand.const (Value.int IntKind.i64 320)) (Operand.tmp 41) 3, type := 3, pos := "lens.go:97", after := #[{ on := 29, ground := Ground.data }, { on := 23, ground := Ground.guard }], guard := some (23, false) }) rfl (by kernel_rfl) (by kernel_rfl) (by kernel_rfl) (fun _ _ _ h => h) (Or.inr ⟨by rfl, rfl⟩) hHeld ?_
  try simp only [Act.put, List.setIfInBounds_toArray, List.set_cons_zero, List.set_cons_succ]
  refine wpAnyH_take (i := 31) (v := undef) (oi := { dst := some 43, op := Op.binOp BinOp.gtr 3 (Operand.tmp 39) (Operand.tmp 42) 3, type := 4, pos := "lens.go:97", after := #[{ on := 27, ground := Ground.data }, { on := 30, ground := Ground.data }, { on := 23, ground := Ground.guard }], guard := some (23, false) }) rfl (by kernel_rfl) (by kernel_rfl) (by kernel_rfl) (fun _ _ _ h => h) (Or.inr ⟨by rfl, rfl⟩) hHeld ?_
  try simp only [Act.put, List.setIfInBounds_toArray, List.set_cons_zero, List.set_cons_succ]
  refine wpAnyH_take (i := 32) (v := .bool true) (oi := { dst := some 44, op := Op.pick (Operand.tmp 35) (Operand.const (Value.bool true)) (Operand.tmp 43), type := 4, pos := "lens.go:97", after := #[{ on := 23, ground := Ground.data }, { on := 31, ground := Ground.data }], guard := none }) rfl (by kernel_rfl) (by kernel_rfl) (by kernel_rfl) (fun _ _ _ h => h) (Or.inl ⟨by rfl, fun W hSw => by obtain ⟨hs1, hs2, hs3⟩ := hSw; go_simp⟩) hHeld ?_
  try simp only [Act.put, List.setIfInBounds_toArray, List.set_cons_zero, List.set_cons_succ]
  refine wpAnyH_take (i := 33) (v := .bool true) (oi := { dst := some 3, op := Op.assign (Operand.tmp 44), type := 4, pos := "lens.go:97", after := #[{ on := 32, ground := Ground.data }, { on := 23, ground := Ground.chain }, { on := 0, ground := Ground.phase }, { on := 1, ground := Ground.phase }, { on := 2, ground := Ground.phase }, { on := 3, ground := Ground.phase }, { on := 4, ground := Ground.phase }, { on := 5, ground := Ground.phase }, { on := 6, ground := Ground.phase }, { on := 7, ground := Ground.phase }, { on := 8, ground := Ground.phase }, { on := 9, ground := Ground.phase }, { on := 10, ground := Ground.phase }, { on := 11, ground := Ground.phase }, { on := 12, ground := Ground.phase }, { on := 13, ground := Ground.phase }, { on := 14, ground := Ground.phase }, { on := 15, ground := Ground.phase }, { on := 16, ground := Ground.phase }, { on := 17, ground := Ground.phase }, { on := 18, ground := Ground.phase }, { on := 19, ground := Ground.phase }, { on := 20, ground := Ground.phase }, { on := 21, ground := Ground.phase }, { on := 22, ground := Ground.phase }, { on := 23, ground := Ground.phase }, { on := 24, ground := Ground.phase }, { on := 25, ground := Ground.phase }, { on := 26, ground := Ground.phase }, { on := 27, ground := Ground.phase }, { on := 28, ground := Ground.phase }, { on := 29, ground := Ground.phase }, { on := 30, ground := Ground.phase }, { on := 31, ground := Ground.phase }, { on := 32, ground := Ground.phase }], guard := none }) rfl (by kernel_rfl) (by kernel_rfl) (by kernel_rfl) (fun _ _ _ h => h) (Or.inl ⟨by rfl, fun W hSw => by obtain ⟨hs1, hs2, hs3⟩ := hSw; go_simp⟩) hHeld ?_
  try simp only [Act.put, List.setIfInBounds_toArray, List.set_cons_zero, List.set_cons_succ]
  refine wpAnyH_done (by kernel_rfl) ?_ _
  clear hHeld
  go_wp2
  go_ret
  exact ⟨rfl, HF.out _ HB1.out⟩

set_option maxHeartbeats 4000000 in
set_option maxRecDepth 100000 in
theorem wr_b (g n c l m d : Nat) (ao : Option Addr) (s x u y : Int) (w : World) (hg : w.cell? ⟨g, 0, none⟩ = some (.slice ao n c)) (hl : spl s = l) (hm : spm s = m) (_e1 : IntKind.i64.wrap ((m : Int) - l) = d)
    (_e2 : IntKind.i64.wrap ((l : Int) + x) = u) (_e3 : IntKind.i64.wrap ((320 : Int) - n) = y) (h1 : ¬ Bad 0 18 s) (h2 : Bad 0 d x) :
    Calls Tryd.prog 97 #[.agg #[.int .i64 s, .int .i64 x], .pointer (some ⟨g, 0, none⟩)] w (Wrote w true) := by
  have HGL := Lib.hid (World.block_lt_of_cell? w _ hg)
  have HG := Lib.hid hg
  have HSP := Lib.hid (And.intro hl hm)
  have H1 := Lib.hid h1
  have H2 := Lib.hid h2
  clear h1 h2
  clear hl hm hg
  obtain ⟨B, hB⟩ : ∃ B, B = w.heap.size := ⟨_, rfl⟩
  have HC : Hid (∀ W, Below (B + 1) (w.alloc (.cells #[.int .i64 s, .int .i64 x] 147)) W → W.cell? ⟨B, 0, none⟩ = some (.int .i64 s) ∧ W.cell? ⟨B, 1, none⟩ = some (.int .i64 x) ∧ W.cell? ⟨g, 0, none⟩ = some (.slice ao n c)) := Lib.hid fun W hb => by
    subst hB
    refine ⟨(hb.cell (p := ⟨_, 0, none⟩) (Nat.lt_succ_self _)).trans ?_, (hb.cell (p := ⟨_, 1, none⟩) (Nat.lt_succ_self _)).trans ?_, (hb.cell (p := ⟨g, 0, none⟩) (Nat.lt_succ_of_lt HGL.out)).trans ?_⟩
    · simp
    · simp
    · have h1 : g ≠ w.heap.size := Nat.ne_of_lt HGL.out
      have h2 := HG.out
      simp [World.cell?_alloc_old, h1, h2]
  have HB0 : Hid (Below (B + 1) (w.alloc (.cells #[.int .i64 s, .int .i64 x] 147)) (w.alloc (.cells #[.int .i64 s, .int .i64 x] 147)).drew) := Lib.hid (by
    subst hB
    have h := (Below.refl (w.alloc (.cells #[.int .i64 s, .int .i64 x] 147)).heap.size (w.alloc (.cells #[.int .i64 s, .int .i64 x] 147))).drew
    simpa using h)
  have HF : Hid (∀ W, Below (B + 1) (w.alloc (.cells #[.int .i64 s, .int .i64 x] 147)) W → Below w.heap.size w W) := Lib.hid fun W hb => by
    subst hB
    exact ((Below.refl _ w).alloc (Nat.le_refl _) _).trans (hb.mono (Nat.le_succ _))
  have HSZ : Hid (B + 1 ≤ (w.alloc (.cells #[.int .i64 s, .int .i64 x] 147)).heap.size) := Lib.hid (by subst hB; simp)
  go_enter Tryd.func97, Tryd.ntmps97
  go_upto_region 2 with (go_at_call 98; refine (span_any _ _).mono ?_; rintro e w5 ⟨rfl, rfl⟩; rw [HSP.out.1, HSP.out.2])
  rw [← hB]
  clear hB
  generalize (w.alloc (.cells #[.int .i64 s, .int .i64 x] 147)) = w3 at *
  refine wp_region_held_drew (S := fun W => W.cell? ⟨B, 0, none⟩ = some (.int .i64 s) ∧ W.cell? ⟨B, 1, none⟩ = some (.int .i64 x) ∧ W.cell? ⟨g, 0, none⟩ = some (.slice ao n c)) (by kernel_rfl) (HC.out _ HB0.out) (fun hHeld => ?_)
  refine wpAnyH_take (i := 1) (v := .pointer (some ⟨B, 0, none⟩)) (oi := { dst := some 13, op := Op.fieldAddr 147 (Operand.tmp 2) 0, type := 0, pos := "lens.go:97", after := #[], guard := none }) rfl (by kernel_rfl) (by kernel_rfl) (by kernel_rfl) (fun _ _ _ h => h) (Or.inl ⟨by rfl, fun W hSw => by obtain ⟨hs1, hs2, hs3⟩ := hSw; go_simp⟩) hHeld ?_
  try simp only [Act.put, List.setIfInBounds_toArray, List.set_cons_zero, List.set_cons_succ]
  refine wpAnyH_take (i := 2) (v := .int .i64 s) (oi := { dst := some 14, op := Op.load 3 (Operand.tmp 13), type := 3, pos := "lens.go:97", after := #[{ on := 1, ground := Ground.data }], guard := none }) rfl (by kernel_rfl) (by kernel_rfl) (by kernel_rfl) (fun _ _ _ h => h) (Or.inl ⟨by rfl, fun W hSw => by obtain ⟨hs1, hs2, hs3⟩ := hSw; go_simp⟩) hHeld ?_
  try simp only [Act.put, List.setIfInBounds_toArray, List.set_cons_zero, List.set_cons_succ]
  refine wpAnyH_ready (rs := [0]) (by kernel_rfl) (by simp) ?_
  refine AllReadyH.cons (o := { dst := some 12, op := Op.call { callee := Callee.value (Operand.func 99), args := #[Operand.const (Value.int IntKind.i64 0), Operand.const (Value.int IntKind.i64 18)], argTypes := #[3, 3] }, type := 33, pos := "lens.go:97", after := #[], guard := none }) rfl (fun K hK => ?_) AllReadyH.nil
  refine step_call (by rfl) _ _ (run_call2 (.func 99) (.const (.int .i64 0)) (.const (.int .i64 18)) _ 99 #[] (.int .i64 0) (.int .i64 18) (fun _ => enter21 _ _) rfl rfl rfl rfl) (fun v W => ∃ p q, v = fnOut p q ∧ Kept W p q 0 18 ∧ Below (B + 1) w3 W) ?_ ?_
  · refine (outside_any 0 18 _).mono ?_
    rintro e w1 ⟨p, q, rfl, hk, hb, hp, hq⟩
    exact ⟨_, rfl, p, q, rfl, hk, HB0.out.trans (hb.mono (Nat.le_trans HSZ.out HB0.out.size))⟩
  rintro v1 w1 ⟨p1, q1, rfl, hk, hb⟩
  have HK1 := Lib.hid hk
  have HB1 := Lib.hid hb
  clear hk hb
  refine hK.out _ _ (HC.out _ HB1.out) (fun hHeld => ?_)
  clear hK K
  try simp only [Act.put, List.setIfInBounds_toArray, List.set_cons_zero, List.set_cons_succ]
  refine wpAnyH_ready (rs := [3]) (by kernel_rfl) (by simp) ?_
  refine AllReadyH.cons (o := { dst := some 15, op := Op.call { callee := Callee.value (Operand.tmp 12), args := #[Operand.tmp 14], argTypes := #[3] }, type := 4, pos := "lens.go:97", after := #[{ on := 0, ground := Ground.data }, { on := 2, ground := Ground.data }, { on := 0, ground := Ground.chain }], guard := none }) rfl (fun K hK => ?_) AllReadyH.nil
  refine step_call (by rfl) _ _ (run_call1 (.tmp 12) (.tmp 14) _ 101 #[.pointer (some ⟨p1, 0, none⟩), .pointer (some ⟨q1, 0, none⟩)] (.int .i64 s) (fun _ => enter35 _ _) rfl rfl rfl) (fun v W => v = .bool false ∧ W = w1) ?_ ?_
  · refine (bad_no p1 q1 0 18 s _ HK1.out H1.out).mono ?_
    rintro e W ⟨rfl, rfl⟩
    exact ⟨_, rfl, rfl, rfl⟩
  rintro v W ⟨rfl, rfl⟩
  refine hK.out _ _ (HC.out _ HB1.out) (fun hHeld => ?_)
  clear hK K
  try simp only [Act.put, List.setIfInBounds_toArray, List.set_cons_zero, List.set_cons_succ]
  refine wpAnyH_take (i := 4) (v := .bool false) (oi := { dst := some 16, op := Op.move (Operand.tmp 15), type := 4, pos := "lens.go:97", after := #[{ on := 3, ground := Ground.data }, { on := 3, ground := Ground.chain }], guard := none }) rfl (by kernel_rfl) (by kernel_rfl) (by kernel_rfl) (fun _ _ _ h => h) (Or.inl ⟨by rfl, fun W hSw => by obtain ⟨hs1, hs2, hs3⟩ := hSw; go_simp⟩) hHeld ?_
  try simp only [Act.put, List.setIfInBounds_toArray, List.set_cons_zero, List.set_cons_succ]
  refine wpAnyH_take (i := 5) (v := .int .i64 m) (oi := { dst := some 17, op := Op.move (Operand.tmp 5), type := 3, pos := "lens.go:97", after := #[{ on := 4, ground := Ground.guard }], guard := some (4, false) }) rfl (by kernel_rfl) (by kernel_rfl) (by kernel_rfl) (fun _ _ _ h => h) (Or.inl ⟨by rfl, fun W hSw => by obtain ⟨hs1, hs2, hs3⟩ := hSw; go_simp⟩) hHeld ?_
  try simp only [Act.put, List.setIfInBounds_toArray, List.set_cons_zero, List.set_cons_succ]
  refine wpAnyH_take (i := 6) (v := .int .i64 l) (oi := { dst := some 18, op := Op.move (Operand.tmp 4), type := 3, pos := "lens.go:97", after := #[{ on := 4, ground := Ground.guard }], guard := some (4, false) }) rfl (by kernel_rfl) (by kernel_rfl) (by kernel_rfl) (fun _ _ _ h => h) (Or.inl ⟨by rfl, fun W hSw => by obtain ⟨hs1, hs2, hs3⟩ := hSw; go_simp⟩) hHeld ?_
  try simp only [Act.put, List.setIfInBounds_toArray, List.set_cons_zero, List.set_cons_succ]
  refine wpAnyH_take (i := 7) (v := .int .i64 d) (oi := { dst := some 19, op := Op.binOp BinOp.sub 3 (Operand.tmp 17) (Operand.tmp 18) 3, type := 3, pos := "lens.go:97", after := #[{ on := 5, ground := Ground.data }, { on := 6, ground := Ground.data }, { on := 4, ground := Ground.guard }], guard := some (4, false) }) rfl (by kernel_rfl) (by kernel_rfl) (by kernel_rfl) (fun _ _ _ h => h) (Or.inl ⟨by rfl, fun W hSw => by obtain ⟨hs1, hs2, hs3⟩ := hSw; go_simp⟩) hHeld ?_
  try simp only [Act.put, List.setIfInBounds_toArray, List.set_cons_zero, List.set_cons_succ]
  refine wpAnyH_take (i := 9) (v := .pointer (some ⟨B, 1, none⟩)) (oi := { dst := some 21, op := Op.fieldAddr 147 (Operand.tmp 2) 1, type := 0, pos := "lens.go:97", after := #[{ on := 4, ground := Ground.guard }], guard := some (4, false) }) rfl (by kernel_rfl) (by kernel_rfl) (by kernel_rfl) (fun _ _ _ h => h) (Or.inl ⟨by rfl, fun W hSw => by obtain ⟨hs1, hs2, hs3⟩ := hSw; go_simp⟩) hHeld ?_
  try simp only [Act.put, List.setIfInBounds_toArray, List.set_cons_zero, List.set_cons_succ]
  refine wpAnyH_take (i := 10) (v := .int .i64 x) (oi := { dst := some 22, op := Op.load 3 (Operand.tmp 21), type := 3, pos := "lens.go:97", after := #[{ on := 9, ground := Ground.data }, { on := 4, ground := Ground.guard }], guard := some (4, false) }) rfl (by kernel_rfl) (by kernel_rfl) (by kernel_rfl) (fun _ _ _ h => h) (Or.inl ⟨by rfl, fun W hSw => by obtain ⟨hs1, hs2, hs3⟩ := hSw; go_simp⟩) hHeld ?_
  try simp only [Act.put, List.setIfInBounds_toArray, List.set_cons_zero, List.set_cons_succ]
  refine wpAnyH_ready (rs := [8]) (by kernel_rfl) (by simp) ?_
  refine AllReadyH.cons (o := { dst := some 20, op := Op.call { callee := Callee.value (Operand.func 99), args := #[Operand.const (Value.int IntKind.i64 0), Operand.tmp 19], argTypes := #[3, 3] }, type := 33, pos := "lens.go:97", after := #[{ on := 7, ground := Ground.data }, { on := 4, ground := Ground.chain }, { on := 4, ground := Ground.guard }], guard := some (4, false) }) rfl (fun K hK => ?_) AllReadyH.nil
  refine step_call (by rfl) _ _ (run_call2 (.func 99) (.const (.int .i64 0)) (.tmp 19) _ 99 #[] (.int .i64 0) (.int .i64 d) (fun _ => enter21 _ _) rfl rfl rfl rfl) (fun v W => ∃ p q, v = fnOut p q ∧ Kept W p q 0 d ∧ Below (B + 1) w3 W) ?_ ?_
  · refine (outside_any 0 d _).mono ?_
    rintro e w2 ⟨p, q, rfl, hk, hb, hp, hq⟩
    exact ⟨_, rfl, p, q, rfl, hk, HB1.out.trans (hb.mono (Nat.le_trans HSZ.out HB1.out.size))⟩
  rintro v2 w2 ⟨p2, q2, rfl, hk, hb⟩
  have HK2 := Lib.hid hk
  have HB2 := Lib.hid hb
  clear hk hb
  refine hK.out _ _ (HC.out _ HB2.out) (fun hHeld => ?_)
  clear hK K
  try simp only [Act.put, List.setIfInBounds_toArray, List.set_cons_zero, List.set_cons_succ]
  refine wpAnyH_ready (rs := [11]) (by kernel_rfl) (by simp) ?_
  refine AllReadyH.cons (o := { dst := some 23, op := Op.call { callee := Callee.value (Operand.tmp 20), args := #[Operand.tmp 22], argTypes := #[3] }, type := 4, pos := "lens.go:97", after := #[{ on := 8, ground := Ground.data }, { on := 10, ground := Ground.data }, { on := 8, ground := Ground.chain }, { on := 4, ground := Ground.guard }], guard := some (4, false) }) rfl (fun K hK => ?_) AllReadyH.nil
  refine step_call (by rfl) _ _ (run_call1 (.tmp 20) (.tmp 22) _ 101 #[.pointer (some ⟨p2, 0, none⟩), .pointer (some ⟨q2, 0, none⟩)] (.int .i64 x) (fun _ => enter35 _ _) rfl rfl rfl) (fun v W => v = .bool true ∧ W = w2) ?_ ?_
  · refine (bad_yes p2 q2 0 d x _ HK2.out H2.out).mono ?_
    rintro e W ⟨rfl, rfl⟩
    exact ⟨_, rfl, rfl, rfl⟩
  rintro v W ⟨rfl, rfl⟩
  refine hK.out _ _ (HC.out _ HB2.out) (fun hHeld => ?_)
  clear hK K
  try simp only [Act.put, List.setIfInBounds_toArray, List.set_cons_zero, List.set_cons_succ]
  refine wpAnyH_take (i := 12) (v := .bool true) (oi := { dst := some 24, op := Op.pick (Operand.tmp 16) (Operand.const (Value.bool true)) (Operand.tmp 23), type := 4, pos := "lens.go:97", after := #[{ on := 4, ground := Ground.data }, { on := 11, ground := Ground.data }], guard := none }) rfl (by kernel_rfl) (by kernel_rfl) (by kernel_rfl) (fun _ _ _ h => h) (Or.inl ⟨by rfl, fun W hSw => by obtain ⟨hs1, hs2, hs3⟩ := hSw; go_simp⟩) hHeld ?_
  try simp only [Act.put, List.setIfInBounds_toArray, List.set_cons_zero, List.set_cons_succ]
  refine wpAnyH_take (i := 13) (v := .bool true) (oi := { dst := some 25, op := Op.move (Operand.tmp 24), type := 4, pos := "lens.go:97", after := #[{ on := 12, ground := Ground.data }, { on := 11, ground := Ground.chain }], guard := none }) rfl (by kernel_rfl) (by kernel_rfl) (by kernel_rfl) (fun _ _ _ h => h) (Or.inl ⟨by rfl, fun W hSw => by obtain ⟨hs1, hs2, hs3⟩ := hSw; go_simp⟩) hHeld ?_
  try simp only [Act.put, List.setIfInBounds_toArray, List.set_cons_zero, List.set_cons_succ]
  refine wpAnyH_take (i := 14) (v := undef) (oi := { dst := some 26, op := Op.fieldAddr 147 (Operand.tmp 2) 0, type := 0, pos := "lens.go:97", after := #[{ on := 13, ground := Ground.guard }], guard := some (13, false) }) rfl (by kernel_rfl) (by kernel_rfl) (by kernel_rfl) (fun _ _ _ h => h) (Or.inr ⟨by rfl, rfl⟩) hHeld ?_
  try simp only [Act.put, List.setIfInBounds_toArray, List.set_cons_zero, List.set_cons_succ]
  refine wpAnyH_take (i := 15) (v := undef) (oi := { dst := some 27, op := Op.load 3 (Operand.tmp 26), type := 3, pos := "lens.go:97", after := #[{ on := 14, ground := Ground.data }, { on := 13, ground := Ground.guard }], guard := some (13, false) }) rfl (by kernel_rfl) (by kernel_rfl) (by kernel_rfl) (fun _ _ _ h => h) (Or.inr ⟨by rfl, rfl⟩) hHeld ?_
  try simp only [Act.put, List.setIfInBounds_toArray, List.set_cons_zero, List.set_cons_succ]
  refine wpAnyH_take (i := 16) (v := undef) (oi := { dst := some 28, op := Op.binOp BinOp.eql 3 (Operand.tmp 27) (Operand.const (Value.int IntKind.i64 16)) 3, type := 4, pos := "lens.go:97", after := #[{ on := 15, ground := Ground.data }, { on := 13, ground := Ground.guard }], guard := some (13, false) }) rfl (by kernel_rfl) (by kernel_rfl) (by kernel_rfl) (fun _ _ _ h => h) (Or.inr ⟨by rfl, rfl⟩) hHeld ?_
  try simp only [Act.put, List.setIfInBounds_toArray, List.set_cons_zero, List.set_cons_succ]
  refine wpAnyH_take (i := 17) (v := undef) (oi := { dst := some 29, op := Op.move (Operand.tmp 28), type := 4, pos := "lens.go:97", after := #[{ on := 16, ground := Ground.data }, { on := 13, ground := Ground.chain }, { on := 13, ground := Ground.guard }], guard := some (13, false) }) rfl (by kernel_rfl) (by kernel_rfl) (by kernel_rfl) (fun _ _ _ h => h) (Or.inr ⟨by rfl, rfl⟩) hHeld ?_
  try simp only [Act.put, List.setIfInBounds_toArray, List.set_cons_zero, List.set_cons_succ]
  refine wpAnyH_take (i := 18) (v := undef) (oi := { dst := some 30, op := Op.load 29 (Operand.tmp 1), type := 29, pos := "lens.go:97", after := #[{ on := 17, ground := Ground.guard }], guard := some (17, true) }) rfl (by kernel_rfl) (by kernel_rfl) (by kernel_rfl) (fun _ _ _ h => h) (Or.inr ⟨by rfl, rfl⟩) hHeld ?_
  try simp only [Act.put, List.setIfInBounds_toArray, List.set_cons_zero, List.set_cons_succ]
  refine wpAnyH_take (i := 19) (v := undef) (oi := { dst := some 31, op := Op.call { callee := Callee.builtin Builtin.len, args := #[Operand.tmp 30], argTypes := #[29] }, type := 3, pos := "lens.go:97", after := #[{ on := 18, ground := Ground.data }, { on := 17, ground := Ground.guard }], guard := some (17, true) }) rfl (by kernel_rfl) (by kernel_rfl) (by kernel_rfl) (fun _ _ _ h => h) (Or.inr ⟨by rfl, rfl⟩) hHeld ?_
  try simp only [Act.put, List.setIfInBounds_toArray, List.set_cons_zero, List.set_cons_succ]
  refine wpAnyH_take (i := 20) (v := undef) (oi := { dst := some 32, op := Op.binOp BinOp.eql 3 (Operand.tmp 31) (Operand.const (Value.int IntKind.i64 0)) 3, type := 4, pos := "lens.go:97", after := #[{ on := 19, ground := Ground.data }, { on := 17, ground := Ground.guard }], guard := some (17, true) }) rfl (by kernel_rfl) (by kernel_rfl) (by kernel_rfl) (fun _ _ _ h => h) (Or.inr ⟨by rfl, rfl⟩) hHeld ?_
  try simp only [Act.put, List.setIfInBounds_toArray, List.set_cons_zero, List.set_cons_succ]
  refine wpAnyH_take (i := 21) (v := undef) (oi := { dst := some 33, op := Op.pick (Operand.tmp 29) (Operand.tmp 32) (Operand.const (Value.bool false)), type := 4, pos := "lens.go:97", after := #[{ on := 17, ground := Ground.data }, { on := 20, ground := Ground.data }, { on := 13, ground := Ground.guard }], guard := some (13, false) }) rfl (by kernel_rfl) (by kernel_rfl) (by kernel_rfl) (fun _ _ _ h => h) (Or.inr ⟨by rfl, rfl⟩) hHeld ?_
  try simp only [Act.put, List.setIfInBounds_toArray, List.set_cons_zero, List.set_cons_succ]
  refine wpAnyH_take (i := 22) (v := .bool true) (oi := { dst := some 34, op := Op.pick (Operand.tmp 25) (Operand.const (Value.bool true)) (Operand.tmp 33), type := 4, pos := "lens.go:97", after := #[{ on := 13, ground := Ground.data }, { on := 21, ground := Ground.data }], guard := none }) rfl (by kernel_rfl) (by kernel_rfl) (by kernel_rfl) (fun _ _ _ h => h) (Or.inl ⟨by rfl, fun W hSw => by obtain ⟨hs1, hs2, hs3⟩ := hSw; go_simp⟩) hHeld ?_
  try simp only [Act.put, List.setIfInBounds_toArray, List.set_cons_zero, List.set_cons_succ]
  refine wpAnyH_take (i := 23) (v := .bool true) (oi := { dst := some 35, op := Op.move (Operand.tmp 34), type := 4, pos := "lens.go:97", after := #[{ on := 22, ground := Ground.data }, { on := 17, ground := Ground.chain }], guard := none }) rfl (by kernel_rfl) (by kernel_rfl) (by kernel_rfl) (fun _ _ _ h => h) (Or.inl ⟨by rfl, fun W hSw => by obtain ⟨hs1, hs2, hs3⟩ := hSw; go_simp⟩) hHeld ?_
  try simp only [Act.put, List.setIfInBounds_toArray, List.set_cons_zero, List.set_cons_succ]
  refine wpAnyH_take (i := 24) (v := undef) (oi := { dst := some 36, op := Op.move (Operand.tmp 4), type := 3, pos := "lens.go:97", after := #[{ on := 23, ground := Ground.guard }], guard := some (23, false) }) rfl (by kernel_rfl) (by kernel_rfl) (by kernel_rfl) (fun _ _ _ h => h) (Or.inr ⟨by rfl, rfl⟩) hHeld ?_
  try simp only [Act.put, List.setIfInBounds_toArray, List.set_cons_zero, List.set_cons_succ]
  refine wpAnyH_take (i := 25) (v := undef) (oi := { dst := some 37, op := Op.fieldAddr 147 (Operand.tmp 2) 1, type := 0, pos := "lens.go:97", after := #[{ on := 23, ground := Ground.guard }], guard := some (23, false) }) rfl (by kernel_rfl) (by kernel_rfl) (by kernel_rfl) (fun _ _ _ h => h) (Or.inr ⟨by rfl, rfl⟩) hHeld ?_
  try simp only [Act.put, List.setIfInBounds_toArray, List.set_cons_zero, List.set_cons_succ]
  refine wpAnyH_take (i := 26) (v := undef) (oi := { dst := some 38, op := Op.load 3 (Operand.tmp 37), type := 3, pos := "lens.go:97", after := #[{ on := 25, ground := Ground.data }, { on := 23, ground := Ground.guard }], guard := some (23, false) }) rfl (by kernel_rfl) (by kernel_rfl) (by kernel_rfl) (fun _ _ _ h => h) (Or.inr ⟨by rfl, rfl⟩) hHeld ?_
  try simp only [Act.put, List.setIfInBounds_toArray, List.set_cons_zero, List.set_cons_succ]
  refine wpAnyH_take (i := 27) (v := undef) (oi := { dst := some 39, op := Op.binOp BinOp.add 3 (Operand.tmp 36) (Operand.tmp 38) 3, type := 3, pos := "lens.go:97", after := #[{ on := 24, ground := Ground.data }, { on := 26, ground := Ground.data }, { on := 23, ground := Ground.guard }], guard := some (23, false) }) rfl (by kernel_rfl) (by kernel_rfl) (by kernel_rfl) (fun _ _ _ h => h) (Or.inr ⟨by rfl, rfl⟩) hHeld ?_
  try simp only [Act.put, List.setIfInBounds_toArray, List.set_cons_zero, List.set_cons_succ]
  refine wpAnyH_take (i := 28) (v := undef) (oi := { dst := some 40, op := Op.load 29 (Operand.tmp 1), type := 29, pos := "lens.go:97", after := #[{ on := 23, ground := Ground.guard }], guard := some (23, false) }) rfl (by kernel_rfl) (by kernel_rfl) (by kernel_rfl) (fun _ _ _ h => h) (Or.inr ⟨by rfl, rfl⟩) hHeld ?_
  try simp only [Act.put, List.setIfInBounds_toArray, List.set_cons_zero, List.set_cons_succ]
  refine wpAnyH_take (i := 29) (v := undef) (oi := { dst := some 41, op := Op.call { callee := Callee.builtin Builtin.len, args := #[Operand.tmp 40], argTypes := #[29] }, type := 3, pos := "lens.go:97", after := #[{ on := 28, ground := Ground.data }, { on := 23, ground := Ground.guard }], guard := some (23, false) }) rfl (by kernel_rfl) (by kernel_rfl) (by kernel_rfl) (fun _ _ _ h => h) (Or.inr ⟨by rfl, rfl⟩) hHeld ?_
  try simp only [Act.put, List.setIfInBounds_toArray, List.set_cons_zero, List.set_cons_succ]
  refine wpAnyH_take (i := 30) (v := undef) (oi := { dst := some 42, op := Op.binOp BinOp.sub 3 (Operand.const (Value.int IntKind.i64 320)) (Operand.tmp 41) 3, type := 3, pos := "lens.go:97", after := #[{ on := 29, ground := Ground.data }, { on := 23, ground := Ground.guard }], guard := some (23, false) }) rfl (by kernel_rfl) (by kernel_rfl) (by kernel_rfl) (fun _ _ _ h => h) (Or.inr ⟨by rfl, rfl⟩) hHeld ?_
  try simp only [Act.put, List.setIfInBounds_toArray, List.set_cons_zero, List.set_cons_succ]
  refine wpAnyH_take (i := 31) (v := undef) (oi := { dst := some 43, op := Op.binOp BinOp.gtr 3 (Operand.tmp 39) (Operand.tmp 42) 3, type := 4, pos := "lens.go:97", after := #[{ on := 27, ground := Ground.data }, { on := 30, ground := Ground.data }, { on := 23, ground := Ground.guard }], guard := some (23, false) }) rfl (by kernel_rfl) (by kernel_rfl) (by kernel_rfl) (fun _ _ _ h => h) (Or.inr ⟨by rfl, rfl⟩) hHeld ?_
  try simp only [Act.put, List.setIfInBounds_toArray, List.set_cons_zero, List.set_cons_succ]
  refine wpAnyH_take (i := 32) (v := .bool true) (oi := { dst := some 44, op := Op.pick (Operand.tmp 35) (Operand.const (Value.bool true)) (Operand.tmp 43), type := 4, pos := "lens.go:97", after := #[{ on := 23, ground := Ground.data }, { on := 31, ground := Ground.data }], guard := none }) rfl (by kernel_rfl) (by kernel_rfl) (by kernel_rfl) (fun _ _ _ h => h) (Or.inl ⟨by rfl, fun W hSw => by obtain ⟨hs1, hs2, hs3⟩ := hSw; go_simp⟩) hHeld ?_
  try simp only [Act.put, List.setIfInBounds_toArray, List.set_cons_zero, List.set_cons_succ]
  refine wpAnyH_take (i := 33) (v := .bool true) (oi := { dst := some 3, op := Op.assign (Operand.tmp 44), type := 4, pos := "lens.go:97", after := #[{ on := 32, ground := Ground.data }, { on := 23, ground := Ground.chain }, { on := 0, ground := Ground.phase }, { on := 1, ground := Ground.phase }, { on := 2, ground := Ground.phase }, { on := 3, ground := Ground.phase }, { on := 4, ground := Ground.phase }, { on := 5, ground := Ground.phase }, { on := 6, ground := Ground.phase }, { on := 7, ground := Ground.phase }, { on := 8, ground := Ground.phase }, { on := 9, ground := Ground.phase }, { on := 10, ground := Ground.phase }, { on := 11, ground := Ground.phase }, { on := 12, ground := Ground.phase }, { on := 13, ground := Ground.phase }, { on := 14, ground := Ground.phase }, { on := 15, ground := Ground.phase }, { on := 16, ground := Ground.phase }, { on := 17, ground := Ground.phase }, { on := 18, ground := Ground.phase }, { on := 19, ground := Ground.phase }, { on := 20, ground := Ground.phase }, { on := 21, ground := Ground.phase }, { on := 22, ground := Ground.phase }, { on := 23, ground := Ground.phase }, { on := 24, ground := Ground.phase }, { on := 25, ground := Ground.phase }, { on := 26, ground := Ground.phase }, { on := 27, ground := Ground.phase }, { on := 28, ground := Ground.phase }, { on := 29, ground := Ground.phase }, { on := 30, ground := Ground.phase }, { on := 31, ground := Ground.phase }, { on := 32, ground := Ground.phase }], guard := none }) rfl (by kernel_rfl) (by kernel_rfl) (by kernel_rfl) (fun _ _ _ h => h) (Or.inl ⟨by rfl, fun W hSw => by obtain ⟨hs1, hs2, hs3⟩ := hSw; go_simp⟩) hHeld ?_
  try simp only [Act.put, List.setIfInBounds_toArray, List.set_cons_zero, List.set_cons_succ]
  refine wpAnyH_done (by kernel_rfl) ?_ _
  clear hHeld
  go_wp2
  go_ret
  exact ⟨rfl, HF.out _ HB2.out⟩

set_option maxHeartbeats 4000000 in
set_option maxRecDepth 100000 in
theorem wr_c (g n c l m d : Nat) (ao : Option Addr) (s x u y : Int) (w : World) (hg : w.cell? ⟨g, 0, none⟩ = some (.slice ao n c)) (hl : spl s = l) (hm : spm s = m) (_e1 : IntKind.i64.wrap ((m : Int) - l) = d)
    (_e2 : IntKind.i64.wrap ((l : Int) + x) = u) (_e3 : IntKind.i64.wrap ((320 : Int) - n) = y) (h1 : ¬ Bad 0 18 s) (h2 : ¬ Bad 0 d x) (h3 : (s == 16) = true) (h4 : ((n : Int) == 0) = true) :
    Calls Tryd.prog 97 #[.agg #[.int .i64 s, .int .i64 x], .pointer (some ⟨g, 0, none⟩)] w (Wrote w true) := by
  have HGL := Lib.hid (World.block_lt_of_cell? w _ hg)
  have HG := Lib.hid hg
  have HSP := Lib.hid (And.intro hl hm)
  have H1 := Lib.hid h1
  have H2 := Lib.hid h2
  clear h1 h2
  clear hl hm hg
  obtain ⟨B, hB⟩ : ∃ B, B = w.heap.size := ⟨_, rfl⟩
  have HC : Hid (∀ W, Below (B + 1) (w.alloc (.cells #[.int .i64 s, .int .i64 x] 147)) W → W.cell? ⟨B, 0, none⟩ = some (.int .i64 s) ∧ W.cell? ⟨B, 1, none⟩ = some (.int .i64 x) ∧ W.cell? ⟨g, 0, none⟩ = some (.slice ao n c)) := Lib.hid fun W hb => by
    subst hB
    refine ⟨(hb.cell (p := ⟨_, 0, none⟩) (Nat.lt_succ_self _)).trans ?_, (hb.cell (p := ⟨_, 1, none⟩) (Nat.lt_succ_self _)).trans ?_, (hb.cell (p := ⟨g, 0, none⟩) (Nat.lt_succ_of_lt HGL.out)).trans ?_⟩
    · simp
    · simp
    · have h1 : g ≠ w.heap.size := Nat.ne_of_lt HGL.out
      have h2 := HG.out
      simp [World.cell?_alloc_old, h1, h2]
  have HB0 : Hid (Below (B + 1) (w.alloc (.cells #[.int .i64 s, .int .i64 x] 147)) (w.alloc (.cells #[.int .i64 s, .int .i64 x] 147)).drew) := Lib.hid (by
    subst hB
    have h := (Below.refl (w.alloc (.cells #[.int .i64 s, .int .i64 x] 147)).heap.size (w.alloc (.cells #[.int .i64 s, .int .i64 x] 147))).drew
    simpa using h)
  have HF : Hid (∀ W, Below (B + 1) (w.alloc (.cells #[.int .i64 s, .int .i64 x] 147)) W → Below w.heap.size w W) := Lib.hid fun W hb => by
    subst hB
    exact ((Below.refl _ w).alloc (Nat.le_refl _) _).trans (hb.mono (Nat.le_succ _))
  have HSZ : Hid (B + 1 ≤ (w.alloc (.cells #[.int .i64 s, .int .i64 x] 147)).heap.size) := Lib.hid (by subst hB; simp)
  go_enter Tryd.func97, Tryd.ntmps97
  go_upto_region 2 with (go_at_call 98; refine (span_any _ _).mono ?_; rintro e w5 ⟨rfl, rfl⟩; rw [HSP.out.1, HSP.out.2])
  rw [← hB]
  clear hB
  generalize (w.alloc (.cells #[.int .i64 s, .int .i64 x] 147)) = w3 at *
  refine wp_region_held_drew (S := fun W => W.cell? ⟨B, 0, none⟩ = some (.int .i64 s) ∧ W.cell? ⟨B, 1, none⟩ = some (.int .i64 x) ∧ W.cell? ⟨g, 0, none⟩ = some (.slice ao n c)) (by kernel_rfl) (HC.out _ HB0.out) (fun hHeld => ?_)
  refine wpAnyH_take (i := 1) (v := .pointer (some ⟨B, 0, none⟩)) (oi := { dst := some 13, op := Op.fieldAddr 147 (Operand.tmp 2) 0, type := 0, pos := "lens.go:97", after := #[], guard := none }) rfl (by kernel_rfl) (by kernel_rfl) (by kernel_rfl) (fun _ _ _ h => h) (Or.inl ⟨by rfl, fun W hSw => by obtain ⟨hs1, hs2, hs3⟩ := hSw; go_simp⟩) hHeld ?_
  try simp only [Act.put, List.setIfInBounds_toArray, List.set_cons_zero, List.set_cons_succ]
  refine wpAnyH_take (i := 2) (v := .int .i64 s) (oi := { dst := some 14, op := Op.load 3 (Operand.tmp 13), type := 3, pos := "lens.go:97", after := #[{ on := 1, ground := Ground.data }], guard := none }) rfl (by kernel_rfl) (by kernel_rfl) (by kernel_rfl) (fun _ _ _ h => h) (Or.inl ⟨by rfl, fun W hSw => by obtain ⟨hs1, hs2, hs3⟩ := hSw; go_simp⟩) hHeld ?_
  try simp only [Act.put, List.setIfInBounds_toArray, List.set_cons_zero, List.set_cons_succ]
  refine wpAnyH_ready (rs := [0]) (by kernel_rfl) (by simp) ?_
  refine AllReadyH.cons (o := { dst := some 12, op := Op.call { callee := Callee.value (Operand.func 99), args := #[Operand.const (Value.int IntKind.i64 0), Operand.const (Value.int IntKind.i64 18)], argTypes := #[3, 3] }, type := 33, pos := "lens.go:97", after := #[], guard := none }) rfl (fun K hK => ?_) AllReadyH.nil
  refine step_call (by rfl) _ _ (run_call2 (.func 99) (.const (.int .i64 0)) (.const (.int .i64 18)) _ 99 #[] (.int .i64 0) (.int .i64 18) (fun _ => enter21 _ _) rfl rfl rfl rfl) (fun v W => ∃ p q, v = fnOut p q ∧ Kept W p q 0 18 ∧ Below (B + 1) w3 W) ?_ ?_
  · refine (outside_any 0 18 _).mono ?_
    rintro e w1 ⟨p, q, rfl, hk, hb, hp, hq⟩
    exact ⟨_, rfl, p, q, rfl, hk, HB0.out.trans (hb.mono (Nat.le_trans HSZ.out HB0.out.size))⟩
  rintro v1 w1 ⟨p1, q1, rfl, hk, hb⟩
  have HK1 := Lib.hid hk
  have HB1 := Lib.hid hb
  clear hk hb
  refine hK.out _ _ (HC.out _ HB1.out) (fun hHeld => ?_)
  clear hK K
  try simp only [Act.put, List.setIfInBounds_toArray, List.set_cons_zero, List.set_cons_succ]
  refine wpAnyH_ready (rs := [3]) (by kernel_rfl) (by simp) ?_
  refine AllReadyH.cons (o := { dst := some 15, op := Op.call { callee := Callee.value (Operand.tmp 12), args := #[Operand.tmp 14], argTypes := #[3] }, type := 4, pos := "lens.go:97", after := #[{ on := 0, ground := Ground.data }, { on := 2, ground := Ground.data }, { on := 0, ground := Ground.chain }], guard := none }) rfl (fun K hK => ?_) AllReadyH.nil
  refine step_call (by rfl) _ _ (run_call1 (.tmp 12) (.tmp 14) _ 101 #[.pointer (some ⟨p1, 0, none⟩), .pointer (some ⟨q1, 0, none⟩)] (.int .i64 s) (fun _ => enter35 _ _) rfl rfl rfl) (fun v W => v = .bool false ∧ W = w1) ?_ ?_
  · refine (bad_no p1 q1 0 18 s _ HK1.out H1.out).mono ?_
    rintro e W ⟨rfl, rfl⟩
    exact ⟨_, rfl, rfl, rfl⟩
  rintro v W ⟨rfl, rfl⟩
  refine hK.out _ _ (HC.out _ HB1.out) (fun hHeld => ?_)
  clear hK K
  try simp only [Act.put, List.setIfInBounds_toArray, List.set_cons_zero, List.set_cons_succ]
  refine wpAnyH_take (i := 4) (v := .bool false) (oi := { dst := some 16, op := Op.move (Operand.tmp 15), type := 4, pos := "lens.go:97", after := #[{ on := 3, ground := Ground.data }, { on := 3, ground := Ground.chain }], guard := none }) rfl (by kernel_rfl) (by kernel_rfl) (by kernel_rfl) (fun _ _ _ h => h) (Or.inl ⟨by rfl, fun W hSw => by obtain ⟨hs1, hs2, hs3⟩ := hSw; go_simp⟩) hHeld ?_
  try simp only [Act.put, List.setIfInBounds_toArray, List.set_cons_zero, List.set_cons_succ]
  refine wpAnyH_take (i := 5) (v := .int .i64 m) (oi := { dst := some 17, op := Op.move (Operand.tmp 5), type := 3, pos := "lens.go:97", after := #[{ on := 4, ground := Ground.guard }], guard := some (4, false) }) rfl (by kernel_rfl) (by kernel_rfl) (by kernel_rfl) (fun _ _ _ h => h) (Or.inl ⟨by rfl, fun W hSw => by obtain ⟨hs1, hs2, hs3⟩ := hSw; go_simp⟩) hHeld ?_
  try simp only [Act.put, List.setIfInBounds_toArray, List.set_cons_zero, List.set_cons_succ]
  refine wpAnyH_take (i := 6) (v := .int .i64 l) (oi := { dst := some 18, op := Op.move (Operand.tmp 4), type := 3, pos := "lens.go:97", after := #[{ on := 4, ground := Ground.guard }], guard := some (4, false) }) rfl (by kernel_rfl) (by kernel_rfl) (by kernel_rfl) (fun _ _ _ h => h) (Or.inl ⟨by rfl, fun W hSw => by obtain ⟨hs1, hs2, hs3⟩ := hSw; go_simp⟩) hHeld ?_
  try simp only [Act.put, List.setIfInBounds_toArray, List.set_cons_zero, List.set_cons_succ]
  refine wpAnyH_take (i := 7) (v := .int .i64 d) (oi := { dst := some 19, op := Op.binOp BinOp.sub 3 (Operand.tmp 17) (Operand.tmp 18) 3, type := 3, pos := "lens.go:97", after := #[{ on := 5, ground := Ground.data }, { on := 6, ground := Ground.data }, { on := 4, ground := Ground.guard }], guard := some (4, false) }) rfl (by kernel_rfl) (by kernel_rfl) (by kernel_rfl) (fun _ _ _ h => h) (Or.inl ⟨by rfl, fun W hSw => by obtain ⟨hs1, hs2, hs3⟩ := hSw; go_simp⟩) hHeld ?_
  try simp only [Act.put, List.setIfInBounds_toArray, List.set_cons_zero, List.set_cons_succ]
  refine wpAnyH_take (i := 9) (v := .pointer (some ⟨B, 1, none⟩)) (oi := { dst := some 21, op := Op.fieldAddr 147 (Operand.tmp 2) 1, type := 0, pos := "lens.go:97", after := #[{ on := 4, ground := Ground.guard }], guard := some (4, false) }) rfl (by kernel_rfl) (by kernel_rfl) (by kernel_rfl) (fun _ _ _ h => h) (Or.inl ⟨by rfl, fun W hSw => by obtain ⟨hs1, hs2, hs3⟩ := hSw; go_simp⟩) hHeld ?_
  try simp only [Act.put, List.setIfInBounds_toArray, List.set_cons_zero, List.set_cons_succ]
  refine wpAnyH_take (i := 10) (v := .int .i64 x) (oi := { dst := some 22, op := Op.load 3 (Operand.tmp 21), type := 3, pos := "lens.go:97", after := #[{ on := 9, ground := Ground.data }, { on := 4, ground := Ground.guard }], guard := some (4, false) }) rfl (by kernel_rfl) (by kernel_rfl) (by kernel_rfl) (fun _ _ _ h => h) (Or.inl ⟨by rfl, fun W hSw => by obtain ⟨hs1, hs2, hs3⟩ := hSw; go_simp⟩) hHeld ?_
  try simp only [Act.put, List.setIfInBounds_toArray, List.set_cons_zero, List.set_cons_succ]
  refine wpAnyH_ready (rs := [8]) (by kernel_rfl) (by simp) ?_
  refine AllReadyH.cons (o := { dst := some 20, op := Op.call { callee := Callee.value (Operand.func 99), args := #[Operand.const (Value.int IntKind.i64 0), Operand.tmp 19], argTypes := #[3, 3] }, type := 33, pos := "lens.go:97", after := #[{ on := 7, ground := Ground.data }, { on := 4, ground := Ground.chain }, { on := 4, ground := Ground.guard }], guard := some (4, false) }) rfl (fun K hK => ?_) AllReadyH.nil
  refine step_call (by rfl) _ _ (run_call2 (.func 99) (.const (.int .i64 0)) (.tmp 19) _ 99 #[] (.int .i64 0) (.int .i64 d) (fun _ => enter21 _ _) rfl rfl rfl rfl) (fun v W => ∃ p q, v = fnOut p q ∧ Kept W p q 0 d ∧ Below (B + 1) w3 W) ?_ ?_
  · refine (outside_any 0 d _).mono ?_
    rintro e w2 ⟨p, q, rfl, hk, hb, hp, hq⟩
    exact ⟨_, rfl, p, q, rfl, hk, HB1.out.trans (hb.mono (Nat.le_trans HSZ.out HB1.out.size))⟩
  rintro v2 w2 ⟨p2, q2, rfl, hk, hb⟩
  have HK2 := Lib.hid hk
  have HB2 := Lib.hid hb
  clear hk hb
  refine hK.out _ _ (HC.out _ HB2.out) (fun hHeld => ?_)
  clear hK K
  try simp only [Act.put, List.setIfInBounds_toArray, List.set_cons_zero, List.set_cons_succ]
  refine wpAnyH_ready (rs := [11]) (by kernel_rfl) (by simp) ?_
  refine AllReadyH.cons (o := { dst := some 23, op := Op.call { callee := Callee.value (Operand.tmp 20), args := #[Operand.tmp 22], argTypes := #[3] }, type := 4, pos := "lens.go:97", after := #[{ on := 8, ground := Ground.data }, { on := 10, ground := Ground.data }, { on := 8, ground := Ground.chain }, { on := 4, ground := Ground.guard }], guard := some (4, false) }) rfl (fun K hK => ?_) AllReadyH.nil
  refine step_call (by rfl) _ _ (run_call1 (.tmp 20) (.tmp 22) _ 101 #[.pointer (some ⟨p2, 0, none⟩), .pointer (some ⟨q2, 0, none⟩)] (.int .i64 x) (fun _ => enter35 _ _) rfl rfl rfl) (fun v W => v = .bool false ∧ W = w2) ?_ ?_
  · refine (bad_no p2 q2 0 d x _ HK2.out H2.out).mono ?_
    rintro e W ⟨rfl, rfl⟩
    exact ⟨_, rfl, rfl, rfl⟩
  rintro v W ⟨rfl, rfl⟩
  refine hK.out _ _ (HC.out _ HB2.out) (fun hHeld => ?_)
  clear hK K
  try simp only [Act.put, List.setIfInBounds_toArray, List.set_cons_zero, List.set_cons_succ]
  refine wpAnyH_take (i := 12) (v := .bool false) (oi := { dst := some 24, op := Op.pick (Operand.tmp 16) (Operand.const (Value.bool true)) (Operand.tmp 23), type := 4, pos := "lens.go:97", after := #[{ on := 4, ground := Ground.data }, { on := 11, ground := Ground.data }], guard := none }) rfl (by kernel_rfl) (by kernel_rfl) (by kernel_rfl) (fun _ _ _ h => h) (Or.inl ⟨by rfl, fun W hSw => by obtain ⟨hs1, hs2, hs3⟩ := hSw; go_simp⟩) hHeld ?_
  try simp only [Act.put, List.setIfInBounds_toArray, List.set_cons_zero, List.set_cons_succ]
  refine wpAnyH_take (i := 13) (v := .bool false) (oi := { dst := some 25, op := Op.move (Operand.tmp 24), type := 4, pos := "lens.go:97", after := #[{ on := 12, ground := Ground.data }, { on := 11, ground := Ground.chain }], guard := none }) rfl (by kernel_rfl) (by kernel_rfl) (by kernel_rfl) (fun _ _ _ h => h) (Or.inl ⟨by rfl, fun W hSw => by obtain ⟨hs1, hs2, hs3⟩ := hSw; go_simp⟩) hHeld ?_
  try simp only [Act.put, List.setIfInBounds_toArray, List.set_cons_zero, List.set_cons_succ]
  refine wpAnyH_take (i := 14) (v := .pointer (some ⟨B, 0, none⟩)) (oi := { dst := some 26, op := Op.fieldAddr 147 (Operand.tmp 2) 0, type := 0, pos := "lens.go:97", after := #[{ on := 13, ground := Ground.guard }], guard := some (13, false) }) rfl (by kernel_rfl) (by kernel_rfl) (by kernel_rfl) (fun _ _ _ h => h) (Or.inl ⟨by rfl, fun W hSw => by obtain ⟨hs1, hs2, hs3⟩ := hSw; go_simp⟩) hHeld ?_
  try simp only [Act.put, List.setIfInBounds_toArray, List.set_cons_zero, List.set_cons_succ]
  refine wpAnyH_take (i := 15) (v := .int .i64 s) (oi := { dst := some 27, op := Op.load 3 (Operand.tmp 26), type := 3, pos := "lens.go:97", after := #[{ on := 14, ground := Ground.data }, { on := 13, ground := Ground.guard }], guard := some (13, false) }) rfl (by kernel_rfl) (by kernel_rfl) (by kernel_rfl) (fun _ _ _ h => h) (Or.inl ⟨by rfl, fun W hSw => by obtain ⟨hs1, hs2, hs3⟩ := hSw; go_simp⟩) hHeld ?_
  try simp only [Act.put, List.setIfInBounds_toArray, List.set_cons_zero, List.set_cons_succ]
  refine wpAnyH_take (i := 16) (v := .bool true) (oi := { dst := some 28, op := Op.binOp BinOp.eql 3 (Operand.tmp 27) (Operand.const (Value.int IntKind.i64 16)) 3, type := 4, pos := "lens.go:97", after := #[{ on := 15, ground := Ground.data }, { on := 13, ground := Ground.guard }], guard := some (13, false) }) rfl (by kernel_rfl) (by kernel_rfl) (by kernel_rfl) (fun _ _ _ h => h) (Or.inl ⟨by rfl, fun W hSw => by obtain ⟨hs1, hs2, hs3⟩ := hSw; go_simp⟩) hHeld ?_
  try simp only [Act.put, List.setIfInBounds_toArray, List.set_cons_zero, List.set_cons_succ]
  refine wpAnyH_take (i := 17) (v := .bool true) (oi := { dst := some 29, op := Op.move (Operand.tmp 28), type := 4, pos := "lens.go:97", after := #[{ on := 16, ground := Ground.data }, { on := 13, ground := Ground.chain }, { on := 13, ground := Ground.guard }], guard := some (13, false) }) rfl (by kernel_rfl) (by kernel_rfl) (by kernel_rfl) (fun _ _ _ h => h) (Or.inl ⟨by rfl, fun W hSw => by obtain ⟨hs1, hs2, hs3⟩ := hSw; go_simp⟩) hHeld ?_
  try simp only [Act.put, List.setIfInBounds_toArray, List.set_cons_zero, List.set_cons_succ]
  refine wpAnyH_take (i := 18) (v := .slice ao n c) (oi := { dst := some 30, op := Op.load 29 (Operand.tmp 1), type := 29, pos := "lens.go:97", after := #[{ on := 17, ground := Ground.guard }], guard := some (17, true) }) rfl (by kernel_rfl) (by kernel_rfl) (by kernel_rfl) (fun _ _ _ h => h) (Or.inl ⟨by rfl, fun W hSw => by obtain ⟨hs1, hs2, hs3⟩ := hSw; go_simp⟩) hHeld ?_
  try simp only [Act.put, List.setIfInBounds_toArray, List.set_cons_zero, List.set_cons_succ]
  refine wpAnyH_take (i := 19) (v := .int .i64 n) (oi := { dst := some 31, op := Op.call { callee := Callee.builtin Builtin.len, args := #[Operand.tmp 30], argTypes := #[29] }, type := 3, pos := "lens.go:97", after := #[{ on := 18, ground := Ground.data }, { on := 17, ground := Ground.guard }], guard := some (17, true) }) rfl (by kernel_rfl) (by kernel_rfl) (by kernel_rfl) (fun _ _ _ h => h) (Or.inl ⟨by rfl, fun W hSw => by obtain ⟨hs1, hs2, hs3⟩ := hSw; go_simp⟩) hHeld ?_
  try simp only [Act.put, List.setIfInBounds_toArray, List.set_cons_zero, List.set_cons_succ]
  refine wpAnyH_take (i := 20) (v := .bool true) (oi := { dst := some 32, op := Op.binOp BinOp.eql 3 (Operand.tmp 31) (Operand.const (Value.int IntKind.i64 0)) 3, type := 4, pos := "lens.go:97", after := #[{ on := 19, ground := Ground.data }, { on := 17, ground := Ground.guard }], guard := some (17, true) }) rfl (by kernel_rfl) (by kernel_rfl) (by kernel_rfl) (fun _ _ _ h => h) (Or.inl ⟨by rfl, fun W hSw => by obtain ⟨hs1, hs2, hs3⟩ := hSw; go_simp⟩) hHeld ?_
  try simp only [Act.put, List.setIfInBounds_toArray, List.set_cons_zero, List.set_cons_succ]
  refine wpAnyH_take (i := 21) (v := .bool true) (oi := { dst := some 33, op := Op.pick (Operand.tmp 29) (Operand.tmp 32) (Operand.const (Value.bool false)), type := 4, pos := "lens.go:97", after := #[{ on := 17, ground := Ground.data }, { on := 20, ground := Ground.data }, { on := 13, ground := Ground.guard }], guard := some (13, false) }) rfl (by kernel_rfl) (by kernel_rfl) (by kernel_rfl) (fun _ _ _ h => h) (Or.inl ⟨by rfl, fun W hSw => by obtain ⟨hs1, hs2, hs3⟩ := hSw; go_simp⟩) hHeld ?_
  try simp only [Act.put, List.setIfInBounds_toArray, List.set_cons_zero, List.set_cons_succ]
  refine wpAnyH_take (i := 22) (v := .bool true) (oi := { dst := some 34, op := Op.pick (Operand.tmp 25) (Operand.const (Value.bool true)) (Operand.tmp 33), type := 4, pos := "lens.go:97", after := #[{ on := 13, ground := Ground.data }, { on := 21, ground := Ground.data }], guard := none }) rfl (by kernel_rfl) (by kernel_rfl) (by kernel_rfl) (fun _ _ _ h => h) (Or.inl ⟨by rfl, fun W hSw => by obtain ⟨hs1, hs2, hs3⟩ := hSw; go_simp⟩) hHeld ?_
  try simp only [Act.put, List.setIfInBounds_toArray, List.set_cons_zero, List.set_cons_succ]
  refine wpAnyH_take (i := 23) (v := .bool true) (oi := { dst := some 35, op := Op.move (Operand.tmp 34), type := 4, pos := "lens.go:97", after := #[{ on := 22, ground := Ground.data }, { on := 17, ground := Ground.chain }], guard := none }) rfl (by kernel_rfl) (by kernel_rfl) (by kernel_rfl) (fun _ _ _ h => h) (Or.inl ⟨by rfl, fun W hSw => by obtain ⟨hs1, hs2, hs3⟩ := hSw; go_simp⟩) hHeld ?_
  try simp only [Act.put, List.setIfInBounds_toArray, List.set_cons_zero, List.set_cons_succ]
  refine wpAnyH_take (i := 24) (v := undef) (oi := { dst := some 36, op := Op.move (Operand.tmp 4), type := 3, pos := "lens.go:97", after := #[{ on := 23, ground := Ground.guard }], guard := some (23, false) }) rfl (by kernel_rfl) (by kernel_rfl) (by kernel_rfl) (fun _ _ _ h => h) (Or.inr ⟨by rfl, rfl⟩) hHeld ?_
  try simp only [Act.put, List.setIfInBounds_toArray, List.set_cons_zero, List.set_cons_succ]
  refine wpAnyH_take (i := 25) (v := undef) (oi := { dst := some 37, op := Op.fieldAddr 147 (Operand.tmp 2) 1, type := 0, pos := "lens.go:97", after := #[{ on := 23, ground := Ground.guard }], guard := some (23, false) }) rfl (by kernel_rfl) (by kernel_rfl) (by kernel_rfl) (fun _ _ _ h => h) (Or.inr ⟨by rfl, rfl⟩) hHeld ?_
  try simp only [Act.put, List.setIfInBounds_toArray, List.set_cons_zero, List.set_cons_succ]
  refine wpAnyH_take (i := 26) (v := undef) (oi := { dst := some 38, op := Op.load 3 (Operand.tmp 37), type := 3, pos := "lens.go:97", after := #[{ on := 25, ground := Ground.data }, { on := 23, ground := Ground.guard }], guard := some (23, false) }) rfl (by kernel_rfl) (by kernel_rfl) (by kernel_rfl) (fun _ _ _ h => h) (Or.inr ⟨by rfl, rfl⟩) hHeld ?_
  try simp only [Act.put, List.setIfInBounds_toArray, List.set_cons_zero, List.set_cons_succ]
  refine wpAnyH_take (i := 27) (v := undef) (oi := { dst := some 39, op := Op.binOp BinOp.add 3 (Operand.tmp 36) (Operand.tmp 38) 3, type := 3, pos := "lens.go:97", after := #[{ on := 24, ground := Ground.data }, { on := 26, ground := Ground.data }, { on := 23, ground := Ground.guard }], guard := some (23, false) }) rfl (by kernel_rfl) (by kernel_rfl) (by kernel_rfl) (fun _ _ _ h => h) (Or.inr ⟨by rfl, rfl⟩) hHeld ?_
  try simp only [Act.put, List.setIfInBounds_toArray, List.set_cons_zero, List.set_cons_succ]
  refine wpAnyH_take (i := 28) (v := undef) (oi := { dst := some 40, op := Op.load 29 (Operand.tmp 1), type := 29, pos := "lens.go:97", after := #[{ on := 23, ground := Ground.guard }], guard := some (23, false) }) rfl (by kernel_rfl) (by kernel_rfl) (by kernel_rfl) (fun _ _ _ h => h) (Or.inr ⟨by rfl, rfl⟩) hHeld ?_
  try simp only [Act.put, List.setIfInBounds_toArray, List.set_cons_zero, List.set_cons_succ]
  refine wpAnyH_take (i := 29) (v := undef) (oi := { dst := some 41, op := Op.call { callee := Callee.builtin Builtin.len, args := #[Operand.tmp 40], argTypes := #[29] }, type := 3, pos := "lens.go:97", after := #[{ on := 28, ground := Ground.data }, { on := 23, ground := Ground.guard }], guard := some (23, false) }) rfl (by kernel_rfl) (by kernel_rfl) (by kernel_rfl) (fun _ _ _ h => h) (Or.inr ⟨by rfl, rfl⟩) hHeld ?_
  try simp only [Act.put, List.setIfInBounds_toArray, List.set_cons_zero, List.set_cons_succ]
  refine wpAnyH_take (i := 30) (v := undef) (oi := { dst := some 42, op := Op.binOp BinOp.sub 3 (Operand.const (Value.int IntKind.i64 320)) (Operand.tmp 41) 3, type := 3, pos := "lens.go:97", after := #[{ on := 29, ground := Ground.data }, { on := 23, ground := Ground.guard }], guard := some (23, false) }) rfl (by kernel_rfl) (by kernel_rfl) (by kernel_rfl) (fun _ _ _ h => h) (Or.inr ⟨by rfl, rfl⟩) hHeld ?_
  try simp only [Act.put, List.setIfInBounds_toArray, List.set_cons_zero, List.set_cons_succ]
  refine wpAnyH_take (i := 31) (v := undef) (oi := { dst := some 43, op := Op.binOp BinOp.gtr 3 (Operand.tmp 39) (Operand.tmp 42) 3, type := 4, pos := "lens.go:97", after := #[{ on := 27, ground := Ground.data }, { on := 30, ground := Ground.data }, { on := 23, ground := Ground.guard }], guard := some (23, false) }) rfl (by kernel_rfl) (by kernel_rfl) (by kernel_rfl) (fun _ _ _ h => h) (Or.inr ⟨by rfl, rfl⟩) hHeld ?_
  try simp only [Act.put, List.setIfInBounds_toArray, List.set_cons_zero, List.set_cons_succ]
  refine wpAnyH_take (i := 32) (v := .bool true) (oi := { dst := some 44, op := Op.pick (Operand.tmp 35) (Operand.const (Value.bool true)) (Operand.tmp 43), type := 4, pos := "lens.go:97", after := #[{ on := 23, ground := Ground.data }, { on := 31, ground := Ground.data }], guard := none }) rfl (by kernel_rfl) (by kernel_rfl) (by kernel_rfl) (fun _ _ _ h => h) (Or.inl ⟨by rfl, fun W hSw => by obtain ⟨hs1, hs2, hs3⟩ := hSw; go_simp⟩) hHeld ?_
  try simp only [Act.put, List.setIfInBounds_toArray, List.set_cons_zero, List.set_cons_succ]
  refine wpAnyH_take (i := 33) (v := .bool true) (oi := { dst := some 3, op := Op.assign (Operand.tmp 44), type := 4, pos := "lens.go:97", after := #[{ on := 32, ground := Ground.data }, { on := 23, ground := Ground.chain }, { on := 0, ground := Ground.phase }, { on := 1, ground := Ground.phase }, { on := 2, ground := Ground.phase }, { on := 3, ground := Ground.phase }, { on := 4, ground := Ground.phase }, { on := 5, ground := Ground.phase }, { on := 6, ground := Ground.phase }, { on := 7, ground := Ground.phase }, { on := 8, ground := Ground.phase }, { on := 9, ground := Ground.phase }, { on := 10, ground := Ground.phase }, { on := 11, ground := Ground.phase }, { on := 12, ground := Ground.phase }, { on := 13, ground := Ground.phase }, { on := 14, ground := Ground.phase }, { on := 15, ground := Ground.phase }, { on := 16, ground := Ground.phase }, { on := 17, ground := Ground.phase }, { on := 18, ground := Ground.phase }, { on := 19, ground := Ground.phase }, { on := 20, ground := Ground.phase }, { on := 21, ground := Ground.phase }, { on := 22, ground := Ground.phase }, { on := 23, ground := Ground.phase }, { on := 24, ground := Ground.phase }, { on := 25, ground := Ground.phase }, { on := 26, ground := Ground.phase }, { on := 27, ground := Ground.phase }, { on := 28, ground := Ground.phase }, { on := 29, ground := Ground.phase }, { on := 30, ground := Ground.phase }, { on := 31, ground := Ground.phase }, { on := 32, ground := Ground.phase }], guard := none }) rfl (by kernel_rfl) (by kernel_rfl) (by kernel_rfl) (fun _ _ _ h => h) (Or.inl ⟨by rfl, fun W hSw => by obtain ⟨hs1, hs2, hs3⟩ := hSw; go_simp⟩) hHeld ?_
  try simp only [Act.put, List.setIfInBounds_toArray, List.set_cons_zero, List.set_cons_succ]
  refine wpAnyH_done (by kernel_rfl) ?_ _
  clear hHeld
  go_wp2
  go_ret
  exact ⟨rfl, HF.out _ HB2.out⟩

set_option maxHeartbeats 4000000 in
set_option maxRecDepth 100000 in
theorem wr_d (g n c l m d : Nat) (ao : Option Addr) (s x u y : Int) (w : World) (hg : w.cell? ⟨g, 0, none⟩ = some (.slice ao n c)) (hl : spl s = l) (hm : spm s = m) (_e1 : IntKind.i64.wrap ((m : Int) - l) = d)
    (_e2 : IntKind.i64.wrap ((l : Int) + x) = u) (_e3 : IntKind.i64.wrap ((320 : Int) - n) = y) (h1 : ¬ Bad 0 18 s) (h2 : ¬ Bad 0 d x) (h3 : (s == 16) = true) (h4 : ((n : Int) == 0) = false) (h5 : decide (y < u) = true) :
    Calls Tryd.prog 97 #[.agg #[.int .i64 s, .int .i64 x], .pointer (some ⟨g, 0, none⟩)] w (Wrote w true) := by
  have HGL := Lib.hid (World.block_lt_of_cell? w _ hg)
  have HG := Lib.hid hg
  have HSP := Lib.hid (And.intro hl hm)
  have H1 := Lib.hid h1
  have H2 := Lib.hid h2
  clear h1 h2
  clear hl hm hg
  obtain ⟨B, hB⟩ : ∃ B, B = w.heap.size := ⟨_, rfl⟩
  have HC : Hid (∀ W, Below (B + 1) (w.alloc (.cells #[.int .i64 s, .int .i64 x] 147)) W → W.cell? ⟨B, 0, none⟩ = some (.int .i64 s) ∧ W.cell? ⟨B, 1, none⟩ = some (.int .i64 x) ∧ W.cell? ⟨g, 0, none⟩ = some (.slice ao n c)) := Lib.hid fun W hb => by
    subst hB
    refine ⟨(hb.cell (p := ⟨_, 0, none⟩) (Nat.lt_succ_self _)).trans ?_, (hb.cell (p := ⟨_, 1, none⟩) (Nat.lt_succ_self _)).trans ?_, (hb.cell (p := ⟨g, 0, none⟩) (Nat.lt_succ_of_lt HGL.out)).trans ?_⟩
    · simp
    · simp
    · have h1 : g ≠ w.heap.size := Nat.ne_of_lt HGL.out
      have h2 := HG.out
      simp [World.cell?_alloc_old, h1, h2]
  have HB0 : Hid (Below (B + 1) (w.alloc (.cells #[.int .i64 s, .int .i64 x] 147)) (w.alloc (.cells #[.int .i64 s, .int .i64 x] 147)).drew) := Lib.hid (by
    subst hB
    have h := (Below.refl (w.alloc (.cells #[.int .i64 s, .int .i64 x] 147)).heap.size (w.alloc (.cells #[.int .i64 s, .int .i64 x] 147))).drew
    simpa using h)
  have HF : Hid (∀ W, Below (B + 1) (w.alloc (.cells #[.int .i64 s, .int .i64 x] 147)) W → Below w.heap.size w W) := Lib.hid fun W hb => by
    subst hB
    exact ((Below.refl _ w).alloc (Nat.le_refl _) _).trans (hb.mono (Nat.le_succ _))
  have HSZ : Hid (B + 1 ≤ (w.alloc (.cells #[.int .i64 s, .int .i64 x] 147)).heap.size) := Lib.hid (by subst hB; simp)
  go_enter Tryd.func97, Tryd.ntmps97
  go_upto_region 2 with (go_at_call 98; refine (span_any _ _).mono ?_; rintro e w5 ⟨rfl, rfl⟩; rw [HSP.out.1, HSP.out.2])
  rw [← hB]
  clear hB
  generalize (w.alloc (.cells #[.int .i64 s, .int .i64 x] 147)) = w3 at *
  refine wp_region_held_drew (S := fun W => W.cell? ⟨B, 0, none⟩ = some (.int .i64 s) ∧ W.cell? ⟨B, 1, none⟩ = some (.int .i64 x) ∧ W.cell? ⟨g, 0, none⟩ = some (.slice ao n c)) (by kernel_rfl) (HC.out _ HB0.out) (fun hHeld => ?_)
  refine wpAnyH_take (i := 1) (v := .pointer (some ⟨B, 0, none⟩)) (oi := { dst := some 13, op := Op.fieldAddr 147 (Operand.tmp 2) 0, type := 0, pos := "lens.go:97", after := #[], guard := none }) rfl (by kernel_rfl) (by kernel_rfl) (by kernel_rfl) (fun _ _ _ h => h) (Or.inl ⟨by rfl, fun W hSw => by obtain ⟨hs1, hs2, hs3⟩ := hSw; go_simp⟩) hHeld ?_
  try simp only [Act.put, List.setIfInBounds_toArray, List.set_cons_zero, List.set_cons_succ]
  refine wpAnyH_take (i := 2) (v := .int .i64 s) (oi := { dst := some 14, op := Op.load 3 (Operand.tmp 13), type := 3, pos := "lens.go:97", after := #[{ on := 1, ground := Ground.data }], guard := none }) rfl (by kernel_rfl) (by kernel_rfl) (by kernel_rfl) (fun _ _ _ h => h) (Or.inl ⟨by rfl, fun W hSw => by obtain ⟨hs1, hs2, hs3⟩ := hSw; go_simp⟩) hHeld ?_
  try simp only [Act.put, List.setIfInBounds_toArray, List.set_cons_zero, List.set_cons_succ]
  refine wpAnyH_ready (rs := [0]) (by kernel_rfl) (by simp) ?_
  refine AllReadyH.cons (o := { dst := some 12, op := Op.call { callee := Callee.value (Operand.func 99), args := #[Operand.const (Value.int IntKind.i64 0), Operand.const (Value.int IntKind.i64 18)], argTypes := #[3, 3] }, type := 33, pos := "lens.go:97", after := #[], guard := none }) rfl (fun K hK => ?_) AllReadyH.nil
  refine step_call (by rfl) _ _ (run_call2 (.func 99) (.const (.int .i64 0)) (.const (.int .i64 18)) _ 99 #[] (.int .i64 0) (.int .i64 18) (fun _ => enter21 _ _) rfl rfl rfl rfl) (fun v W => ∃ p q, v = fnOut p q ∧ Kept W p q 0 18 ∧ Below (B + 1) w3 W) ?_ ?_
  · refine (outside_any 0 18 _).mono ?_
    rintro e w1 ⟨p, q, rfl, hk, hb, hp, hq⟩
    exact ⟨_, rfl, p, q, rfl, hk, HB0.out.trans (hb.mono (Nat.le_trans HSZ.out HB0.out.size))⟩
  rintro v1 w1 ⟨p1, q1, rfl, hk, hb⟩
  have HK1 := Lib.hid hk
  have HB1 := Lib.hid hb
  clear hk hb
  refine hK.out _ _ (HC.out _ HB1.out) (fun hHeld => ?_)
  clear hK K
  try simp only [Act.put, List.setIfInBounds_toArray, List.set_cons_zero, List.set_cons_succ]
  refine wpAnyH_ready (rs := [3]) (by kernel_rfl) (by simp) ?_
  refine AllReadyH.cons (o := { dst := some 15, op := Op.call { callee := Callee.value (Operand.tmp 12), args := #[Operand.tmp 14], argTypes := #[3] }, type := 4, pos := "lens.go:97", after := #[{ on := 0, ground := Ground.data }, { on := 2, ground := Ground.data }, { on := 0, ground := Ground.chain }], guard := none }) rfl (fun K hK => ?_) AllReadyH.nil
  refine step_call (by rfl) _ _ (run_call1 (.tmp 12) (.tmp 14) _ 101 #[.pointer (some ⟨p1, 0, none⟩), .pointer (some ⟨q1, 0, none⟩)] (.int .i64 s) (fun _ => enter35 _ _) rfl rfl rfl) (fun v W => v = .bool false ∧ W = w1) ?_ ?_
  · refine (bad_no p1 q1 0 18 s _ HK1.out H1.out).mono ?_
    rintro e W ⟨rfl, rfl⟩
    exact ⟨_, rfl, rfl, rfl⟩
  rintro v W ⟨rfl, rfl⟩
  refine hK.out _ _ (HC.out _ HB1.out) (fun hHeld => ?_)
  clear hK K
  try simp only [Act.put, List.setIfInBounds_toArray, List.set_cons_zero, List.set_cons_succ]
  refine wpAnyH_take (i := 4) (v := .bool false) (oi := { dst := some 16, op := Op.move (Operand.tmp 15), type := 4, pos := "lens.go:97", after := #[{ on := 3, ground := Ground.data }, { on := 3, ground := Ground.chain }], guard := none }) rfl (by kernel_rfl) (by kernel_rfl) (by kernel_rfl) (fun _ _ _ h => h) (Or.inl ⟨by rfl, fun W hSw => by obtain ⟨hs1, hs2, hs3⟩ := hSw; go_simp⟩) hHeld ?_
  try simp only [Act.put, List.setIfInBounds_toArray, List.set_cons_zero, List.set_cons_succ]
  refine wpAnyH_take (i := 5) (v := .int .i64 m) (oi := { dst := some 17, op := Op.move (Operand.tmp 5), type := 3, pos := "lens.go:97", after := #[{ on := 4, ground := Ground.guard }], guard := some (4, false) }) rfl (by kernel_rfl) (by kernel_rfl) (by kernel_rfl) (fun _ _ _ h => h) (Or.inl ⟨by rfl, fun W hSw => by obtain ⟨hs1, hs2, hs3⟩ := hSw; go_simp⟩) hHeld ?_
  try simp only [Act.put, List.setIfInBounds_toArray, List.set_cons_zero, List.set_cons_succ]
  refine wpAnyH_take (i := 6) (v := .int .i64 l) (oi := { dst := some 18, op := Op.move (Operand.tmp 4), type := 3, pos := "lens.go:97", after := #[{ on := 4, ground := Ground.guard }], guard := some (4, false) }) rfl (by kernel_rfl) (by kernel_rfl) (by kernel_rfl) (fun _ _ _ h => h) (Or.inl ⟨by rfl, fun W hSw => by obtain ⟨hs1, hs2, hs3⟩ := hSw; go_simp⟩) hHeld ?_
  try simp only [Act.put, List.setIfInBounds_toArray, List.set_cons_zero, List.set_cons_succ]
  refine wpAnyH_take (i := 7) (v := .int .i64 d) (oi := { dst := some 19, op := Op.binOp BinOp.sub 3 (Operand.tmp 17) (Operand.tmp 18) 3, type := 3, pos := "lens.go:97", after := #[{ on := 5, ground := Ground.data }, { on := 6, ground := Ground.data }, { on := 4, ground := Ground.guard }], guard := some (4, false) }) rfl (by kernel_rfl) (by kernel_rfl) (by kernel_rfl) (fun _ _ _ h => h) (Or.inl ⟨by rfl, fun W hSw => by obtain ⟨hs1, hs2, hs3⟩ := hSw; go_simp⟩) hHeld ?_
  try simp only [Act.put, List.setIfInBounds_toArray, List.set_cons_zero, List.set_cons_succ]
  refine wpAnyH_take (i := 9) (v := .pointer (some ⟨B, 1, none⟩)) (oi := { dst := some 21, op := Op.fieldAddr 147 (Operand.tmp 2) 1, type := 0, pos := "lens.go:97", after := #[{ on := 4, ground := Ground.guard }], guard := some (4, false) }) rfl (by kernel_rfl) (by kernel_rfl) (by kernel_rfl) (fun _ _ _ h => h) (Or.inl ⟨by rfl, fun W hSw => by obtain ⟨hs1, hs2, hs3⟩ := hSw; go_simp⟩) hHeld ?_
  try simp only [Act.put, List.setIfInBounds_toArray, List.set_cons_zero, List.set_cons_succ]
  refine wpAnyH_take (i := 10) (v := .int .i64 x) (oi := { dst := some 22, op := Op.load 3 (Operand.tmp 21), type := 3, pos := "lens.go:97", after := #[{ on := 9, ground := Ground.data }, { on := 4, ground := Ground.guard }], guard := some (4, false) }) rfl (by kernel_rfl) (by kernel_rfl) (by kernel_rfl) (fun _ _ _ h => h) (Or.inl ⟨by rfl, fun W hSw => by obtain ⟨hs1, hs2, hs3⟩ := hSw; go_simp⟩) hHeld ?_
  try simp only [Act.put, List.setIfInBounds_toArray, List.set_cons_zero, List.set_cons_succ]
  refine wpAnyH_ready (rs := [8]) (by kernel_rfl) (by simp) ?_
  refine AllReadyH.cons (o := { dst := some 20, op := Op.call { callee := Callee.value (Operand.func 99), args := #[Operand.const (Value.int IntKind.i64 0), Operand.tmp 19], argTypes := #[3, 3] }, type := 33, pos := "lens.go:97", after := #[{ on := 7, ground := Ground.data }, { on := 4, ground := Ground.chain }, { on := 4, ground := Ground.guard }], guard := some (4, false) }) rfl (fun K hK => ?_) AllReadyH.nil
  refine step_call (by rfl) _ _ (run_call2 (.func 99) (.const (.int .i64 0)) (.tmp 19) _ 99 #[] (.int .i64 0) (.int .i64 d) (fun _ => enter21 _ _) rfl rfl rfl rfl) (fun v W => ∃ p q, v = fnOut p q ∧ Kept W p q 0 d ∧ Below (B + 1) w3 W) ?_ ?_
  · refine (outside_any 0 d _).mono ?_
    rintro e w2 ⟨p, q, rfl, hk, hb, hp, hq⟩
    exact ⟨_, rfl, p, q, rfl, hk, HB1.out.trans (hb.mono (Nat.le_trans HSZ.out HB1.out.size))⟩
  rintro v2 w2 ⟨p2, q2, rfl, hk, hb⟩
  have HK2 := Lib.hid hk
  have HB2 := Lib.hid hb
  clear hk hb
  refine hK.out _ _ (HC.out _ HB2.out) (fun hHeld => ?_)
  clear hK K
  try simp only [Act.put, List.setIfInBounds_toArray, List.set_cons_zero, List.set_cons_succ]
  refine wpAnyH_ready (rs := [11]) (by kernel_rfl) (by simp) ?_
  refine AllReadyH.cons (o := { dst := some 23, op := Op.call { callee := Callee.value (Operand.tmp 20), args := #[Operand.tmp 22], argTypes := #[3] }, type := 4, pos := "lens.go:97", after := #[{ on := 8, ground := Ground.data }, { on := 10, ground := Ground.data }, { on := 8, ground := Ground.chain }, { on := 4, ground := Ground.guard }], guard := some (4, false) }) rfl (fun K hK => ?_) AllReadyH.nil
  refine step_call (by rfl) _ _ (run_call1 (.tmp 20) (.tmp 22) _ 101 #[.pointer (some ⟨p2, 0, none⟩), .pointer (some ⟨q2, 0, none⟩)] (.int .i64 x) (fun _ => enter35 _ _) rfl rfl rfl) (fun v W => v = .bool false ∧ W = w2) ?_ ?_
  · refine (bad_no p2 q2 0 d x _ HK2.out H2.out).mono ?_
    rintro e W ⟨rfl, rfl⟩
    exact ⟨_, rfl, rfl, rfl⟩
  rintro v W ⟨rfl, rfl⟩
  refine hK.out _ _ (HC.out _ HB2.out) (fun hHeld => ?_)
  clear hK K
  try simp only [Act.put, List.setIfInBounds_toArray, List.set_cons_zero, List.set_cons_succ]
  refine wpAnyH_take (i := 12) (v := .bool false) (oi := { dst := some 24, op := Op.pick (Operand.tmp 16) (Operand.const (Value.bool true)) (Operand.tmp 23), type := 4, pos := "lens.go:97", after := #[{ on := 4, ground := Ground.data }, { on := 11, ground := Ground.data }], guard := none }) rfl (by kernel_rfl) (by kernel_rfl) (by kernel_rfl) (fun _ _ _ h => h) (Or.inl ⟨by rfl, fun W hSw => by obtain ⟨hs1, hs2, hs3⟩ := hSw; go_simp⟩) hHeld ?_
  try simp only [Act.put, List.setIfInBounds_toArray, List.set_cons_zero, List.set_cons_succ]
  refine wpAnyH_take (i := 13) (v := .bool false) (oi := { dst := some 25, op := Op.move (Operand.tmp 24), type := 4, pos := "lens.go:97", after := #[{ on := 12, ground := Ground.data }, { on := 11, ground := Ground.chain }], guard := none }) rfl (by kernel_rfl) (by kernel_rfl) (by kernel_rfl) (fun _ _ _ h => h) (Or.inl ⟨by rfl, fun W hSw => by obtain ⟨hs1, hs2, hs3⟩ := hSw; go_simp⟩) hHeld ?_
  try simp only [Act.put, List.setIfInBounds_toArray, List.set_cons_zero, List.set_cons_succ]
  refine wpAnyH_take (i := 14) (v := .pointer (some ⟨B, 0, none⟩)) (oi := { dst := some 26, op := Op.fieldAddr 147 (Operand.tmp 2) 0, type := 0, pos := "lens.go:97", after := #[{ on := 13, ground := Ground.guard }], guard := some (13, false) }) rfl (by kernel_rfl) (by kernel_rfl) (by kernel_rfl) (fun _ _ _ h => h) (Or.inl ⟨by rfl, fun W hSw => by obtain ⟨hs1, hs2, hs3⟩ := hSw; go_simp⟩) hHeld ?_
  try simp only [Act.put, List.setIfInBounds_toArray, List.set_cons_zero, List.set_cons_succ]
  refine wpAnyH_take (i := 15) (v := .int .i64 s) (oi := { dst := some 27, op := Op.load 3 (Operand.tmp 26), type := 3, pos := "lens.go:97", after := #[{ on := 14, ground := Ground.data }, { on := 13, ground := Ground.guard }], guard := some (13, false) }) rfl (by kernel_rfl) (by kernel_rfl) (by kernel_rfl) (fun _ _ _ h => h) (Or.inl ⟨by rfl, fun W hSw => by obtain ⟨hs1, hs2, hs3⟩ := hSw; go_simp⟩) hHeld ?_
  try simp only [Act.put, List.setIfInBounds_toArray, List.set_cons_zero, List.set_cons_succ]
  refine wpAnyH_take (i := 16) (v := .bool true) (oi := { dst := some 28, op := Op.binOp BinOp.eql 3 (Operand.tmp 27) (Operand.const (Value.int IntKind.i64 16)) 3, type := 4, pos := "lens.go:97", after := #[{ on := 15, ground := Ground.data }, { on := 13, ground := Ground.guard }], guard := some (13, false) }) rfl (by kernel_rfl) (by kernel_rfl) (by kernel_rfl) (fun _ _ _ h => h) (Or.inl ⟨by rfl, fun W hSw => by obtain ⟨hs1, hs2, hs3⟩ := hSw; go_simp⟩) hHeld ?_
  try simp only [Act.put, List.setIfInBounds_toArray, List.set_cons_zero, List.set_cons_succ]
  refine wpAnyH_take (i := 17) (v := .bool true) (oi := { dst := some 29, op := Op.move (Operand.tmp 28), type := 4, pos := "lens.go:97", after := #[{ on := 16, ground := Ground.data }, { on := 13, ground := Ground.chain }, { on := 13, ground := Ground.guard }], guard := some (13, false) }) rfl (by kernel_rfl) (by kernel_rfl) (by kernel_rfl) (fun _ _ _ h => h) (Or.inl ⟨by rfl, fun W hSw => by obtain ⟨hs1, hs2, hs3⟩ := hSw; go_simp⟩) hHeld ?_
  try simp only [Act.put, List.setIfInBounds_toArray, List.set_cons_zero, List.set_cons_succ]
  refine wpAnyH_take (i := 18) (v := .slice ao n c) (oi := { dst := some 30, op := Op.load 29 (Operand.tmp 1), type := 29, pos := "lens.go:97", after := #[{ on := 17, ground := Ground.guard }], guard := some (17, true) }) rfl (by kernel_rfl) (by kernel_rfl) (by kernel_rfl) (fun _ _ _ h => h) (Or.inl ⟨by rfl, fun W hSw => by obtain ⟨hs1, hs2, hs3⟩ := hSw; go_simp⟩) hHeld ?_
  try simp only [Act.put, List.setIfInBounds_toArray, List.set_cons_zero, List.set_cons_succ]
  refine wpAnyH_take (i := 19) (v := .int .i64 n) (oi := { dst := some 31, op := Op.call { callee := Callee.builtin Builtin.len, args := #[Operand.tmp 30], argTypes := #[29] }, type := 3, pos := "lens.go:97", after := #[{ on := 18, ground := Ground.data }, { on := 17, ground := Ground.guard }], guard := some (17, true) }) rfl (by kernel_rfl) (by kernel_rfl) (by kernel_rfl) (fun _ _ _ h => h) (Or.inl ⟨by rfl, fun W hSw => by obtain ⟨hs1, hs2, hs3⟩ := hSw; go_simp⟩) hHeld ?_
  try simp only [Act.put, List.setIfInBounds_toArray, List.set_cons_zero, List.set_cons_succ]
  refine wpAnyH_take (i := 20) (v := .bool false) (oi := { dst := some 32, op := Op.binOp BinOp.eql 3 (Operand.tmp 31) (Operand.const (Value.int IntKind.i64 0)) 3, type := 4, pos := "lens.go:97", after := #[{ on := 19, ground := Ground.data }, { on := 17, ground := Ground.guard }], guard := some (17, true) }) rfl (by kernel_rfl) (by kernel_rfl) (by kernel_rfl) (fun _ _ _ h => h) (Or.inl ⟨by rfl, fun W hSw => by obtain ⟨hs1, hs2, hs3⟩ := hSw; go_simp⟩) hHeld ?_
  try simp only [Act.put, List.setIfInBounds_toArray, List.set_cons_zero, List.set_cons_succ]
  refine wpAnyH_take (i := 21) (v := .bool false) (oi := { dst := some 33, op := Op.pick (Operand.tmp 29) (Operand.tmp 32) (Operand.const (Value.bool false)), type := 4, pos := "lens.go:97", after := #[{ on := 17, ground := Ground.data }, { on := 20, ground := Ground.data }, { on := 13, ground := Ground.guard }], guard := some (13, false) }) rfl (by kernel_rfl) (by kernel_rfl) (by kernel_rfl) (fun _ _ _ h => h) (Or.inl ⟨by rfl, fun W hSw => by obtain ⟨hs1, hs2, hs3⟩ := hSw; go_simp⟩) hHeld ?_
  try simp only [Act.put, List.setIfInBounds_toArray, List.set_cons_zero, List.set_cons_succ]
  refine wpAnyH_take (i := 22) (v := .bool false) (oi := { dst := some 34, op := Op.pick (Operand.tmp 25) (Operand.const (Value.bool true)) (Operand.tmp 33), type := 4, pos := "lens.go:97", after := #[{ on := 13, ground := Ground.data }, { on := 21, ground := Ground.data }], guard := none }) rfl (by kernel_rfl) (by kernel_rfl) (by kernel_rfl) (fun _ _ _ h => h) (Or.inl ⟨by rfl, fun W hSw => by obtain ⟨hs1, hs2, hs3⟩ := hSw; go_simp⟩) hHeld ?_
  try simp only [Act.put, List.setIfInBounds_toArray, List.set_cons_zero, List.set_cons_succ]
  refine wpAnyH_take (i := 23) (v := .bool false) (oi := { dst := some 35, op := Op.move (Operand.tmp 34), type := 4, pos := "lens.go:97", after := #[{ on := 22, ground := Ground.data }, { on := 17, ground := Ground.chain }], guard := none }) rfl (by kernel_rfl) (by kernel_rfl) (by kernel_rfl) (fun _ _ _ h => h) (Or.inl ⟨by rfl, fun W hSw => by obtain ⟨hs1, hs2, hs3⟩ := hSw; go_simp⟩) hHeld ?_
  try simp only [Act.put, List.setIfInBounds_toArray, List.set_cons_zero, List.set_cons_succ]
  refine wpAnyH_take (i := 24) (v := .int .i64 l) (oi := { dst := some 36, op := Op.move (Operand.tmp 4), type := 3, pos := "lens.go:97", after := #[{ on := 23, ground := Ground.guard }], guard := some (23, false) }) rfl (by kernel_rfl) (by kernel_rfl) (by kernel_rfl) (fun _ _ _ h => h) (Or.inl ⟨by rfl, fun W hSw => by obtain ⟨hs1, hs2, hs3⟩ := hSw; go_simp⟩) hHeld ?_
  try simp only [Act.put, List.setIfInBounds_toArray, List.set_cons_zero, List.set_cons_succ]
  refine wpAnyH_take (i := 25) (v := .pointer (some ⟨B, 1, none⟩)) (oi := { dst := some 37, op := Op.fieldAddr 147 (Operand.tmp 2) 1, type := 0, pos := "lens.go:97", after := #[{ on := 23, ground := Ground.guard }], guard := some (23, false) }) rfl (by kernel_rfl) (by kernel_rfl) (by kernel_rfl) (fun _ _ _ h => h) (Or.inl ⟨by rfl, fun W hSw => by obtain ⟨hs1, hs2, hs3⟩ := hSw; go_simp⟩) hHeld ?_
  try simp only [Act.put, List.setIfInBounds_toArray, List.set_cons_zero, List.set_cons_succ]
  refine wpAnyH_take (i := 26) (v := .int .i64 x) (oi := { dst := some 38, op := Op.load 3 (Operand.tmp 37), type := 3, pos := "lens.go:97", after := #[{ on := 25, ground := Ground.data }, { on := 23, ground := Ground.guard }], guard := some (23, false) }) rfl (by kernel_rfl) (by kernel_rfl) (by kernel_rfl) (fun _ _ _ h => h) (Or.inl ⟨by rfl, fun W hSw => by obtain ⟨hs1, hs2, hs3⟩ := hSw; go_simp⟩) hHeld ?_
  try simp only [Act.put, List.setIfInBounds_toArray, List.set_cons_zero, List.set_cons_succ]
  refine wpAnyH_take (i := 27) (v := .int .i64 u) (oi := { dst := some 39, op := Op.binOp BinOp.add 3 (Operand.tmp 36) (Operand.tmp 38) 3, type := 3, pos := "lens.go:97", after := #[{ on := 24, ground := Ground.data }, { on := 26, ground := Ground.data }, { on := 23, ground := Ground.guard }], guard := some (23, false) }) rfl (by kernel_rfl) (by kernel_rfl) (by kernel_rfl) (fun _ _ _ h => h) (Or.inl ⟨by rfl, fun W hSw => by obtain ⟨hs1, hs2, hs3⟩ := hSw; go_simp⟩) hHeld ?_
  try simp only [Act.put, List.setIfInBounds_toArray, List.set_cons_zero, List.set_cons_succ]
  refine wpAnyH_take (i := 28) (v := .slice ao n c) (oi := { dst := some 40, op := Op.load 29 (Operand.tmp 1), type := 29, pos := "lens.go:97", after := #[{ on := 23, ground := Ground.guard }], guard := some (23, false) }) rfl (by kernel_rfl) (by kernel_rfl) (by kernel_rfl) (fun _ _ _ h => h) (Or.inl ⟨by rfl, fun W hSw => by obtain ⟨hs1, hs2, hs3⟩ := hSw; go_simp⟩) hHeld ?_
  try simp only [Act.put, List.setIfInBounds_toArray, List.set_cons_zero, List.set_cons_succ]
  refine wpAnyH_take (i := 29) (v := .int .i64 n) (oi := { dst := some 41, op := Op.call { callee := Callee.builtin Builtin.len, args := #[Operand.tmp 40], argTypes := #[29] }, type := 3, pos := "lens.go:97", after := #[{ on := 28, ground := Ground.data }, { on := 23, ground := Ground.guard }], guard := some (23, false) }) rfl (by kernel_rfl) (by kernel_rfl) (by kernel_rfl) (fun _ _ _ h => h) (Or.inl ⟨by rfl, fun W hSw => by obtain ⟨hs1, hs2, hs3⟩ := hSw; go_simp⟩) hHeld ?_
  try simp only [Act.put, List.setIfInBounds_toArray, List.set_cons_zero, List.set_cons_succ]
  refine wpAnyH_take (i := 30) (v := .int .i64 y) (oi := { dst := some 42, op := Op.binOp BinOp.sub 3 (Operand.const (Value.int IntKind.i64 320)) (Operand.tmp 41) 3, type := 3, pos := "lens.go:97", after := #[{ on := 29, ground := Ground.data }, { on := 23, ground := Ground.guard }], guard := some (23, false) }) rfl (by kernel_rfl) (by kernel_rfl) (by kernel_rfl) (fun _ _ _ h => h) (Or.inl ⟨by rfl, fun W hSw => by obtain ⟨hs1, hs2, hs3⟩ := hSw; go_simp⟩) hHeld ?_
  try simp only [Act.put, List.setIfInBounds_toArray, List.set_cons_zero, List.set_cons_succ]
  refine wpAnyH_take (i := 31) (v := .bool true) (oi := { dst := some 43, op := Op.binOp BinOp.gtr 3 (Operand.tmp 39) (Operand.tmp 42) 3, type := 4, pos := "lens.go:97", after := #[{ on := 27, ground := Ground.data }, { on := 30, ground := Ground.data }, { on := 23, ground := Ground.guard }], guard := some (23, false) }) rfl (by kernel_rfl) (by kernel_rfl) (by kernel_rfl) (fun _ _ _ h => h) (Or.inl ⟨by rfl, fun W hSw => by obtain ⟨hs1, hs2, hs3⟩ := hSw; go_simp⟩) hHeld ?_
  try simp only [Act.put, List.setIfInBounds_toArray, List.set_cons_zero, List.set_cons_succ]
  refine wpAnyH_take (i := 32) (v := .bool true) (oi := { dst := some 44, op := Op.pick (Operand.tmp 35) (Operand.const (Value.bool true)) (Operand.tmp 43), type := 4, pos := "lens.go:97", after := #[{ on := 23, ground := Ground.data }, { on := 31, ground := Ground.data }], guard := none }) rfl (by kernel_rfl) (by kernel_rfl) (by kernel_rfl) (fun _ _ _ h => h) (Or.inl ⟨by rfl, fun W hSw => by obtain ⟨hs1, hs2, hs3⟩ := hSw; go_simp⟩) hHeld ?_
  try simp only [Act.put, List.setIfInBounds_toArray, List.set_cons_zero, List.set_cons_succ]
  refine wpAnyH_take (i := 33) (v := .bool true) (oi := { dst := some 3, op := Op.assign (Operand.tmp 44), type := 4, pos := "lens.go:97", after := #[{ on := 32, ground := Ground.data }, { on := 23, ground := Ground.chain }, { on := 0, ground := Ground.phase }, { on := 1, ground := Ground.phase }, { on := 2, ground := Ground.phase }, { on := 3, ground := Ground.phase }, { on := 4, ground := Ground.phase }, { on := 5, ground := Ground.phase }, { on := 6, ground := Ground.phase }, { on := 7, ground := Ground.phase }, { on := 8, ground := Ground.phase }, { on := 9, ground := Ground.phase }, { on := 10, ground := Ground.phase }, { on := 11, ground := Ground.phase }, { on := 12, ground := Ground.phase }, { on := 13, ground := Ground.phase }, { on := 14, ground := Ground.phase }, { on := 15, ground := Ground.phase }, { on := 16, ground := Ground.phase }, { on := 17, ground := Ground.phase }, { on := 18, ground := Ground.phase }, { on := 19, ground := Ground.phase }, { on := 20, ground := Ground.phase }, { on := 21, ground := Ground.phase }, { on := 22, ground := Ground.phase }, { on := 23, ground := Ground.phase }, { on := 24, ground := Ground.phase }, { on := 25, ground := Ground.phase }, { on := 26, ground := Ground.phase }, { on := 27, ground := Ground.phase }, { on := 28, ground := Ground.phase }, { on := 29, ground := Ground.phase }, { on := 30, ground := Ground.phase }, { on := 31, ground := Ground.phase }, { on := 32, ground := Ground.phase }], guard := none }) rfl (by kernel_rfl) (by kernel_rfl) (by kernel_rfl) (fun _ _ _ h => h) (Or.inl ⟨by rfl, fun W hSw => by obtain ⟨hs1, hs2, hs3⟩ := hSw; go_simp⟩) hHeld ?_
  try simp only [Act.put, List.setIfInBounds_toArray, List.set_cons_zero, List.set_cons_succ]
  refine wpAnyH_done (by kernel_rfl) ?_ _
  clear hHeld
  go_wp2
  go_ret
  exact ⟨rfl, HF.out _ HB2.out⟩

set_option maxHeartbeats 4000000 in
set_option maxRecDepth 100000 in
theorem wr_e (g n c l m d : Nat) (ao : Option Addr) (s x u y : Int) (w : World) (hg : w.cell? ⟨g, 0, none⟩ = some (.slice ao n c)) (hl : spl s = l) (hm : spm s = m) (_e1 : IntKind.i64.wrap ((m : Int) - l) = d)
    (_e2 : IntKind.i64.wrap ((l : Int) + x) = u) (_e3 : IntKind.i64.wrap ((320 : Int) - n) = y) (h1 : ¬ Bad 0 18 s) (h2 : ¬ Bad 0 d x) (h3 : (s == 16) = true) (h4 : ((n : Int) == 0) = false) (h5 : decide (y < u) = false) :
    Calls Tryd.prog 97 #[.agg #[.int .i64 s, .int .i64 x], .pointer (some ⟨g, 0, none⟩)] w (Wrote w false) := by
  have HGL := Lib.hid (World.block_lt_of_cell? w _ hg)
  have HG := Lib.hid hg
  have HSP := Lib.hid (And.intro hl hm)
  have H1 := Lib.hid h1
  have H2 := Lib.hid h2
  clear h1 h2
  clear hl hm hg
  obtain ⟨B, hB⟩ : ∃ B, B = w.heap.size := ⟨_, rfl⟩
  have HC : Hid (∀ W, Below (B + 1) (w.alloc (.cells #[.int .i64 s, .int .i64 x] 147)) W → W.cell? ⟨B, 0, none⟩ = some (.int .i64 s) ∧ W.cell? ⟨B, 1, none⟩ = some (.int .i64 x) ∧ W.cell? ⟨g, 0, none⟩ = some (.slice ao n c)) := Lib.hid fun W hb => by
    subst hB
    refine ⟨(hb.cell (p := ⟨_, 0, none⟩) (Nat.lt_succ_self _)).trans ?_, (hb.cell (p := ⟨_, 1, none⟩) (Nat.lt_succ_self _)).trans ?_, (hb.cell (p := ⟨g, 0, none⟩) (Nat.lt_succ_of_lt HGL.out)).trans ?_⟩
    · simp
    · simp
    · have h1 : g ≠ w.heap.size := Nat.ne_of_lt HGL.out
      have h2 := HG.out
      simp [World.cell?_alloc_old, h1, h2]
  have HB0 : Hid (Below (B + 1) (w.alloc (.cells #[.int .i64 s, .int .i64 x] 147)) (w.alloc (.cells #[.int .i64 s, .int .i64 x] 147)).drew) := Lib.hid (by
    subst hB
    have h := (Below.refl (w.alloc (.cells #[.int .i64 s, .int .i64 x] 147)).heap.size (w.alloc (.cells #[.int .i64 s, .int .i64 x] 147))).drew
    simpa using h)
  have HF : Hid (∀ W, Below (B + 1) (w.alloc (.cells #[.int .i64 s, .int .i64 x] 147)) W → Below w.heap.size w W) := Lib.hid fun W hb => by
    subst hB
    exact ((Below.refl _ w).alloc (Nat.le_refl _) _).trans (hb.mono (Nat.le_succ _))
  have HSZ : Hid (B + 1 ≤ (w.alloc (.cells #[.int .i64 s, .int .i64 x] 147)).heap.size) := Lib.hid (by subst hB; simp)
  go_enter Tryd.func97, Tryd.ntmps97
  go_upto_region 2 with (go_at_call 98; refine (span_any _ _).mono ?_; rintro e w5 ⟨rfl, rfl⟩; rw [HSP.out.1, HSP.out.2])
  rw [← hB]
  clear hB
  generalize (w.alloc (.cells #[.int .i64 s, .int .i64 x] 147)) = w3 at *
  refine wp_region_held_drew (S := fun W => W.cell? ⟨B, 0, none⟩ = some (.int .i64 s) ∧ W.cell? ⟨B, 1, none⟩ = some (.int .i64 x) ∧ W.cell? ⟨g, 0, none⟩ = some (.slice ao n c)) (by kernel_rfl) (HC.out _ HB0.out) (fun hHeld => ?_)
  refine wpAnyH_take (i := 1) (v := .pointer (some ⟨B, 0, none⟩)) (oi := { dst := some 13, op := Op.fieldAddr 147 (Operand.tmp 2) 0, type := 0, pos := "lens.go:97", after := #[], guard := none }) rfl (by kernel_rfl) (by kernel_rfl) (by kernel_rfl) (fun _ _ _ h => h) (Or.inl ⟨by rfl, fun W hSw => by obtain ⟨hs1, hs2, hs3⟩ := hSw; go_simp⟩) hHeld ?_
  try simp only [Act.put, List.setIfInBounds_toArray, List.set_cons_zero, List.set_cons_succ]
  refine wpAnyH_take (i := 2) (v := .int .i64 s) (oi := { dst := some 14, op := Op.load 3 (Operand.tmp 13), type := 3, pos := "lens.go:97", after := #[{ on := 1, ground := Ground.data }], guard := none }) rfl (by kernel_rfl) (by kernel_rfl) (by kernel_rfl) (fun _ _ _ h => h) (Or.inl ⟨by rfl, fun W hSw => by obtain ⟨hs1, hs2, hs3⟩ := hSw; go_simp⟩) hHeld ?_
  try simp only [Act.put, List.setIfInBounds_toArray, List.set_cons_zero, List.set_cons_succ]
  refine wpAnyH_ready (rs := [0]) (by kernel_rfl) (by simp) ?_
  refine AllReadyH.cons (o := { dst := some 12, op := Op.call { callee := Callee.value (Operand.func 99), args := #[Operand.const (Value.int IntKind.i64 0), Operand.const (Value.int IntKind.i64 18)], argTypes := #[3, 3] }, type := 33, pos := "lens.go:97", after := #[], guard := none }) rfl (fun K hK => ?_) AllReadyH.nil
  refine step_call (by rfl) _ _ (run_call2 (.func 99) (.const (.int .i64 0)) (.const (.int .i64 18)) _ 99 #[] (.int .i64 0) (.int .i64 18) (fun _ => enter21 _ _) rfl rfl rfl rfl) (fun v W => ∃ p q, v = fnOut p q ∧ Kept W p q 0 18 ∧ Below (B + 1) w3 W) ?_ ?_
  · refine (outside_any 0 18 _).mono ?_
    rintro e w1 ⟨p, q, rfl, hk, hb, hp, hq⟩
    exact ⟨_, rfl, p, q, rfl, hk, HB0.out.trans (hb.mono (Nat.le_trans HSZ.out HB0.out.size))⟩
  rintro v1 w1 ⟨p1, q1, rfl, hk, hb⟩
  have HK1 := Lib.hid hk
  have HB1 := Lib.hid hb
  clear hk hb
  refine hK.out _ _ (HC.out _ HB1.out) (fun hHeld => ?_)
  clear hK K
  try simp only [Act.put, List.setIfInBounds_toArray, List.set_cons_zero, List.set_cons_succ]
  refine wpAnyH_ready (rs := [3]) (by kernel_rfl) (by simp) ?_
  refine AllReadyH.cons (o := { dst := some 15, op := Op.call { callee := Callee.value (Operand.tmp 12), args := #[Operand.tmp 14], argTypes := #[3] }, type := 4, pos := "lens.go:97", after := #[{ on := 0, ground := Ground.data }, { on := 2, ground := Ground.data }, { on := 0, ground := Ground.chain }], guard := none }) rfl (fun K hK => ?_) AllReadyH.nil
  refine step_call (by rfl) _ _ (run_call1 (.tmp 12) (.tmp 14) _ 101 #[.pointer (some ⟨p1, 0, none⟩), .pointer (some ⟨q1, 0, none⟩)] (.int .i64 s) (fun _ => enter35 _ _) rfl rfl rfl) (fun v W => v = .bool false ∧ W = w1) ?_ ?_
  · refine (bad_no p1 q1 0 18 s _ HK1.out H1.out).mono ?_
    rintro e W ⟨rfl, rfl⟩
    exact ⟨_, rfl, rfl, rfl⟩
  rintro v W ⟨rfl, rfl⟩
  refine hK.out _ _ (HC.out _ HB1.out) (fun hHeld => ?_)
  clear hK K
  try simp only [Act.put, List.setIfInBounds_toArray, List.set_cons_zero, List.set_cons_succ]
  refine wpAnyH_take (i := 4) (v := .bool false) (oi := { dst := some 16, op := Op.move (Operand.tmp 15), type := 4, pos := "lens.go:97", after := #[{ on := 3, ground := Ground.data }, { on := 3, ground := Ground.chain }], guard := none }) rfl (by kernel_rfl) (by kernel_rfl) (by kernel_rfl) (fun _ _ _ h => h) (Or.inl ⟨by rfl, fun W hSw => by obtain ⟨hs1, hs2, hs3⟩ := hSw; go_simp⟩) hHeld ?_
  try simp only [Act.put, List.setIfInBounds_toArray, List.set_cons_zero, List.set_cons_succ]
  refine wpAnyH_take (i := 5) (v := .int .i64 m) (oi := { dst := some 17, op := Op.move (Operand.tmp 5), type := 3, pos := "lens.go:97", after := #[{ on := 4, ground := Ground.guard }], guard := some (4, false) }) rfl (by kernel_rfl) (by kernel_rfl) (by kernel_rfl) (fun _ _ _ h => h) (Or.inl ⟨by rfl, fun W hSw => by obtain ⟨hs1, hs2, hs3⟩ := hSw; go_simp⟩) hHeld ?_
  try simp only [Act.put, List.setIfInBounds_toArray, List.set_cons_zero, List.set_cons_succ]
  refine wpAnyH_take (i := 6) (v := .int .i64 l) (oi := { dst := some 18, op := Op.move (Operand.tmp 4), type := 3, pos := "lens.go:97", after := #[{ on := 4, ground := Ground.guard }], guard := some (4, false) }) rfl (by kernel_rfl) (by kernel_rfl) (by kernel_rfl) (fun _ _ _ h => h) (Or.inl ⟨by rfl, fun W hSw => by obtain ⟨hs1, hs2, hs3⟩ := hSw; go_simp⟩) hHeld ?_
  try simp only [Act.put, List.setIfInBounds_toArray, List.set_cons_zero, List.set_cons_succ]
  refine wpAnyH_take (i := 7) (v := .int .i64 d) (oi := { dst := some 19, op := Op.binOp BinOp.sub 3 (Operand.tmp 17) (Operand.tmp 18) 3, type := 3, pos := "lens.go:97", after := #[{ on := 5, ground := Ground.data }, { on := 6, ground := Ground.data }, { on := 4, ground := Ground.guard }], guard := some (4, false) }) rfl (by kernel_rfl) (by kernel_rfl) (by kernel_rfl) (fun _ _ _ h => h) (Or.inl ⟨by rfl, fun W hSw => by obtain ⟨hs1, hs2, hs3⟩ := hSw; go_simp⟩) hHeld ?_
  try simp only [Act.put, List.setIfInBounds_toArray, List.set_cons_zero, List.set_cons_succ]
  refine wpAnyH_take (i := 9) (v := .pointer (some ⟨B, 1, none⟩)) (oi := { dst := some 21, op := Op.fieldAddr 147 (Operand.tmp 2) 1, type := 0, pos := "lens.go:97", after := #[{ on := 4, ground := Ground.guard }], guard := some (4, false) }) rfl (by kernel_rfl) (by kernel_rfl) (by kernel_rfl) (fun _ _ _ h => h) (Or.inl ⟨by rfl, fun W hSw => by obtain ⟨hs1, hs2, hs3⟩ := hSw; go_simp⟩) hHeld ?_
  try simp only [Act.put, List.setIfInBounds_toArray, List.set_cons_zero, List.set_cons_succ]
  refine wpAnyH_take (i := 10) (v := .int .i64 x) (oi := { dst := some 22, op := Op.load 3 (Operand.tmp 21), type := 3, pos := "lens.go:97", after := #[{ on := 9, ground := Ground.data }, { on := 4, ground := Ground.guard }], guard := some (4, false) }) rfl (by kernel_rfl) (by kernel_rfl) (by kernel_rfl) (fun _ _ _ h => h) (Or.inl ⟨by rfl, fun W hSw => by obtain ⟨hs1, hs2, hs3⟩ := hSw; go_simp⟩) hHeld ?_
  try simp only [Act.put, List.setIfInBounds_toArray, List.set_cons_zero, List.set_cons_succ]
  refine wpAnyH_ready (rs := [8]) (by kernel_rfl) (by simp) ?_
  refine AllReadyH.cons (o := { dst := some 20, op := Op.call { callee := Callee.value (Operand.func 99), args := #[Operand.const (Value.int IntKind.i64 0), Operand.tmp 19], argTypes := #[3, 3] }, type := 33, pos := "lens.go:97", after := #[{ on := 7, ground := Ground.data }, { on := 4, ground := Ground.chain }, { on := 4, ground := Ground.guard }], guard := some (4, false) }) rfl (fun K hK => ?_) AllReadyH.nil
  refine step_call (by rfl) _ _ (run_call2 (.func 99) (.const (.int .i64 0)) (.tmp 19) _ 99 #[] (.int .i64 0) (.int .i64 d) (fun _ => enter21 _ _) rfl rfl rfl rfl) (fun v W => ∃ p q, v = fnOut p q ∧ Kept W p q 0 d ∧ Below (B + 1) w3 W) ?_ ?_
  · refine (outside_any 0 d _).mono ?_
    rintro e w2 ⟨p, q, rfl, hk, hb, hp, hq⟩
    exact ⟨_, rfl, p, q, rfl, hk, HB1.out.trans (hb.mono (Nat.le_trans HSZ.out HB1.out.size))⟩
  rintro v2 w2 ⟨p2, q2, rfl, hk, hb⟩
  have HK2 := Lib.hid hk
  have HB2 := Lib.hid hb
  clear hk hb
  refine hK.out _ _ (HC.out _ HB2.out) (fun hHeld => ?_)
  clear hK K
  try simp only [Act.put, List.setIfInBounds_toArray, List.set_cons_zero, List.set_cons_succ]
  refine wpAnyH_ready (rs := [11]) (by kernel_rfl) (by simp) ?_
  refine AllReadyH.cons (o := { dst := some 23, op := Op.call { callee := Callee.value (Operand.tmp 20), args := #[Operand.tmp 22], argTypes := #[3] }, type := 4, pos := "lens.go:97", after := #[{ on := 8, ground := Ground.data }, { on := 10, ground := Ground.data }, { on := 8, ground := Ground.chain }, { on := 4, ground := Ground.guard }], guard := some (4, false) }) rfl (fun K hK => ?_) AllReadyH.nil
  refine step_call (by rfl) _ _ (run_call1 (.tmp 20) (.tmp 22) _ 101 #[.pointer (some ⟨p2, 0, none⟩), .pointer (some ⟨q2, 0, none⟩)] (.int .i64 x) (fun _ => enter35 _ _) rfl rfl rfl) (fun v W => v = .bool false ∧ W = w2) ?_ ?_
  · refine (bad_no p2 q2 0 d x _ HK2.out H2.out).mono ?_
    rintro e W ⟨rfl, rfl⟩
    exact ⟨_, rfl, rfl, rfl⟩
  rintro v W ⟨rfl, rfl⟩
  refine hK.out _ _ (HC.out _ HB2.out) (fun hHeld => ?_)
  clear hK K
  try simp only [Act.put, List.setIfInBounds_toArray, List.set_cons_zero, List.set_cons_succ]
  refine wpAnyH_take (i := 12) (v := .bool false) (oi := { dst := some 24, op := Op.pick (Operand.tmp 16) (Operand.const (Value.bool true)) (Operand.tmp 23), type := 4, pos := "lens.go:97", after := #[{ on := 4, ground := Ground.data }, { on := 11, ground := Ground.data }], guard := none }) rfl (by kernel_rfl) (by kernel_rfl) (by kernel_rfl) (fun _ _ _ h => h) (Or.inl ⟨by rfl, fun W hSw => by obtain ⟨hs1, hs2, hs3⟩ := hSw; go_simp⟩) hHeld ?_
  try simp only [Act.put, List.setIfInBounds_toArray, List.set_cons_zero, List.set_cons_succ]
  refine wpAnyH_take (i := 13) (v := .bool false) (oi := { dst := some 25, op := Op.move (Operand.tmp 24), type := 4, pos := "lens.go:97", after := #[{ on := 12, ground := Ground.data }, { on := 11, ground := Ground.chain }], guard := none }) rfl (by kernel_rfl) (by kernel_rfl) (by kernel_rfl) (fun _ _ _ h => h) (Or.inl ⟨by rfl, fun W hSw => by obtain ⟨hs1, hs2, hs3⟩ := hSw; go_simp⟩) hHeld ?_
  try simp only [Act.put, List.setIfInBounds_toArray, List.set_cons_zero, List.set_cons_succ]
  refine wpAnyH_take (i := 14) (v := .pointer (some ⟨B, 0, none⟩)) (oi := { dst := some 26, op := Op.fieldAddr 147 (Operand.tmp 2) 0, type := 0, pos := "lens.go:97", after := #[{ on := 13, ground := Ground.guard }], guard := some (13, false) }) rfl (by kernel_rfl) (by kernel_rfl) (by kernel_rfl) (fun _ _ _ h => h) (Or.inl ⟨by rfl, fun W hSw => by obtain ⟨hs1, hs2, hs3⟩ := hSw; go_simp⟩) hHeld ?_
  try simp only [Act.put, List.setIfInBounds_toArray, List.set_cons_zero, List.set_cons_succ]
  refine wpAnyH_take (i := 15) (v := .int .i64 s) (oi := { dst := some 27, op := Op.load 3 (Operand.tmp 26), type := 3, pos := "lens.go:97", after := #[{ on := 14, ground := Ground.data }, { on := 13, ground := Ground.guard }], guard := some (13, false) }) rfl (by kernel_rfl) (by kernel_rfl) (by kernel_rfl) (fun _ _ _ h => h) (Or.inl ⟨by rfl, fun W hSw => by obtain ⟨hs1, hs2, hs3⟩ := hSw; go_simp⟩) hHeld ?_
  try simp only [Act.put, List.setIfInBounds_toArray, List.set_cons_zero, List.set_cons_succ]
  refine wpAnyH_take (i := 16) (v := .bool true) (oi := { dst := some 28, op := Op.binOp BinOp.eql 3 (Operand.tmp 27) (Operand.const (Value.int IntKind.i64 16)) 3, type := 4, pos := "lens.go:97", after := #[{ on := 15, ground := Ground.data }, { on := 13, ground := Ground.guard }], guard := some (13, false) }) rfl (by kernel_rfl) (by kernel_rfl) (by kernel_rfl) (fun _ _ _ h => h) (Or.inl ⟨by rfl, fun W hSw => by obtain ⟨hs1, hs2, hs3⟩ := hSw; go_simp⟩) hHeld ?_
  try simp only [Act.put, List.setIfInBounds_toArray, List.set_cons_zero, List.set_cons_succ]
  refine wpAnyH_take (i := 17) (v := .bool true) (oi := { dst := some 29, op := Op.move (Operand.tmp 28), type := 4, pos := "lens.go:97", after := #[{ on := 16, ground := Ground.data }, { on := 13, ground := Ground.chain }, { on := 13, ground := Ground.guard }], guard := some (13, false) }) rfl (by kernel_rfl) (by kernel_rfl) (by kernel_rfl) (fun _ _ _ h => h) (Or.inl ⟨by rfl, fun W hSw => by obtain ⟨hs1, hs2, hs3⟩ := hSw; go_simp⟩) hHeld ?_
  try simp only [Act.put, List.setIfInBounds_toArray, List.set_cons_zero, List.set_cons_succ]
  refine wpAnyH_take (i := 18) (v := .slice ao n c) (oi := { dst := some 30, op := Op.load 29 (Operand.tmp 1), type := 29, pos := "lens.go:97", after := #[{ on := 17, ground := Ground.guard }], guard := some (17, true) }) rfl (by kernel_rfl) (by kernel_rfl) (by kernel_rfl) (fun _ _ _ h => h) (Or.inl ⟨by rfl, fun W hSw => by obtain ⟨hs1, hs2, hs3⟩ := hSw; go_simp⟩) hHeld ?_
  try simp only [Act.put, List.setIfInBounds_toArray, List.set_cons_zero, List.set_cons_succ]
  refine wpAnyH_take (i := 19) (v := .int .i64 n) (oi := { dst := some 31, op := Op.call { callee := Callee.builtin Builtin.len, args := #[Operand.tmp 30], argTypes := #[29] }, type := 3, pos := "lens.go:97", after := #[{ on := 18, ground := Ground.data }, { on := 17, ground := Ground.guard }], guard := some (17, true) }) rfl (by kernel_rfl) (by kernel_rfl) (by kernel_rfl) (fun _ _ _ h => h) (Or.inl ⟨by rfl, fun W hSw => by obtain ⟨hs1, hs2, hs3⟩ := hSw; go_simp⟩) hHeld ?_
  try simp only [Act.put, List.setIfInBounds_toArray, List.set_cons_zero, List.set_cons_succ]
  refine wpAnyH_take (i := 20) (v := .bool false) (oi := { dst := some 32, op := Op.binOp BinOp.eql 3 (Operand.tmp 31) (Operand.const (Value.int IntKind.i64 0)) 3, type := 4, pos := "lens.go:97", after := #[{ on := 19, ground := Ground.data }, { on := 17, ground := Ground.guard }], guard := some (17, true) }) rfl (by kernel_rfl) (by kernel_rfl) (by kernel_rfl) (fun _ _ _ h => h) (Or.inl ⟨by rfl, fun W hSw => by obtain ⟨hs1, hs2, hs3⟩ := hSw; go_simp⟩) hHeld ?_
  try simp only [Act.put, List.setIfInBounds_toArray, List.set_cons_zero, List.set_cons_succ]
  refine wpAnyH_take (i := 21) (v := .bool false) (oi := { dst := some 33, op := Op.pick (Operand.tmp 29) (Operand.tmp 32) (Operand.const (Value.bool false)), type := 4, pos := "lens.go:97", after := #[{ on := 17, ground := Ground.data }, { on := 20, ground := Ground.data }, { on := 13, ground := Ground.guard }], guard := some (13, false) }) rfl (by kernel_rfl) (by kernel_rfl) (by kernel_rfl) (fun _ _ _ h => h) (Or.inl ⟨by rfl, fun W hSw => by obtain ⟨hs1, hs2, hs3⟩ := hSw; go_simp⟩) hHeld ?_
  try simp only [Act.put, List.setIfInBounds_toArray, List.set_cons_zero, List.set_cons_succ]
  refine wpAnyH_take (i := 22) (v := .bool false) (oi := { dst := some 34, op := Op.pick (Operand.tmp 25) (Operand.const (Value.bool true)) (Operand.tmp 33), type := 4, pos := "lens.go:97", after := #[{ on := 13, ground := Ground.data }, { on := 21, ground := Ground.data }], guard := none }) rfl (by kernel_rfl) (by kernel_rfl) (by kernel_rfl) (fun _ _ _ h => h) (Or.inl ⟨by rfl, fun W hSw => by obtain ⟨hs1, hs2, hs3⟩ := hSw; go_simp⟩) hHeld ?_
  try simp only [Act.put, List.setIfInBounds_toArray, List.set_cons_zero, List.set_cons_succ]
  refine wpAnyH_take (i := 23) (v := .bool false) (oi := { dst := some 35, op := Op.move (Operand.tmp 34), type := 4, pos := "lens.go:97", after := #[{ on := 22, ground := Ground.data }, { on := 17, ground := Ground.chain }], guard := none }) rfl (by kernel_rfl) (by kernel_rfl) (by kernel_rfl) (fun _ _ _ h => h) (Or.inl ⟨by rfl, fun W hSw => by obtain ⟨hs1, hs2, hs3⟩ := hSw; go_simp⟩) hHeld ?_
  try simp only [Act.put, List.setIfInBounds_toArray, List.set_cons_zero, List.set_cons_succ]
  refine wpAnyH_take (i := 24) (v := .int .i64 l) (oi := { dst := some 36, op := Op.move (Operand.tmp 4), type := 3, pos := "lens.go:97", after := #[{ on := 23, ground := Ground.guard }], guard := some (23, false) }) rfl (by kernel_rfl) (by kernel_rfl) (by kernel_rfl) (fun _ _ _ h => h) (Or.inl ⟨by rfl, fun W hSw => by obtain ⟨hs1, hs2, hs3⟩ := hSw; go_simp⟩) hHeld ?_
  try simp only [Act.put, List.setIfInBounds_toArray, List.set_cons_zero, List.set_cons_succ]
  refine wpAnyH_take (i := 25) (v := .pointer (some ⟨B, 1, none⟩)) (oi := { dst := some 37, op := Op.fieldAddr 147 (Operand.tmp 2) 1, type := 0, pos := "lens.go:97", after := #[{ on := 23, ground := Ground.guard }], guard := some (23, false) }) rfl (by kernel_rfl) (by kernel_rfl) (by kernel_rfl) (fun _ _ _ h => h) (Or.inl ⟨by rfl, fun W hSw => by obtain ⟨hs1, hs2, hs3⟩ := hSw; go_simp⟩) hHeld ?_
  try simp only [Act.put, List.setIfInBounds_toArray, List.set_cons_zero, List.set_cons_succ]
  refine wpAnyH_take (i := 26) (v := .int .i64 x) (oi := { dst := some 38, op := Op.load 3 (Operand.tmp 37), type := 3, pos := "lens.go:97", after := #[{ on := 25, ground := Ground.data }, { on := 23, ground := Ground.guard }], guard := some (23, false) }) rfl (by kernel_rfl) (by kernel_rfl) (by kernel_rfl) (fun _ _ _ h => h) (Or.inl ⟨by rfl, fun W hSw => by obtain ⟨hs1, hs2, hs3⟩ := hSw; go_simp⟩) hHeld ?_
  try simp only [Act.put, List.setIfInBounds_toArray, List.set_cons_zero, List.set_cons_succ]
  refine wpAnyH_take (i := 27) (v := .int .i64 u) (oi := { dst := some 39, op := Op.binOp BinOp.add 3 (Operand.tmp 36) (Operand.tmp 38) 3, type := 3, pos := "lens.go:97", after := #[{ on := 24, ground := Ground.data }, { on := 26, ground := Ground.data }, { on := 23, ground := Ground.guard }], guard := some (23, false) }) rfl (by kernel_rfl) (by kernel_rfl) (by kernel_rfl) (fun _ _ _ h => h) (Or.inl ⟨by rfl, fun W hSw => by obtain ⟨hs1, hs2, hs3⟩ := hSw; go_simp⟩) hHeld ?_
  try simp only [Act.put, List.setIfInBounds_toArray, List.set_cons_zero, List.set_cons_succ]
  refine wpAnyH_take (i := 28) (v := .slice ao n c) (oi := { dst := some 40, op := Op.load 29 (Operand.tmp 1), type := 29, pos := "lens.go:97", after := #[{ on := 23, ground := Ground.guard }], guard := some (23, false) }) rfl (by kernel_rfl) (by kernel_rfl) (by kernel_rfl) (fun _ _ _ h => h) (Or.inl ⟨by rfl, fun W hSw => by obtain ⟨hs1, hs2, hs3⟩ := hSw; go_simp⟩) hHeld ?_
  try simp only [Act.put, List.setIfInBounds_toArray, List.set_cons_zero, List.set_cons_succ]
  refine wpAnyH_take (i := 29) (v := .int .i64 n) (oi := { dst := some 41, op := Op.call { callee := Callee.builtin Builtin.len, args := #[Operand.tmp 40], argTypes := #[29] }, type := 3, pos := "lens.go:97", after := #[{ on := 28, ground := Ground.data }, { on := 23, ground := Ground.guard }], guard := some (23, false) }) rfl (by kernel_rfl) (by kernel_rfl) (by kernel_rfl) (fun _ _ _ h => h) (Or.inl ⟨by rfl, fun W hSw => by obtain ⟨hs1, hs2, hs3⟩ := hSw; go_simp⟩) hHeld ?_
  try simp only [Act.put, List.setIfInBounds_toArray, List.set_cons_zero, List.set_cons_succ]
  refine wpAnyH_take (i := 30) (v := .int .i64 y) (oi := { dst := some 42, op := Op.binOp BinOp.sub 3 (Operand.const (Value.int IntKind.i64 320)) (Operand.tmp 41) 3, type := 3, pos := "lens.go:97", after := #[{ on := 29, ground := Ground.data }, { on := 23, ground := Ground.guard }], guard := some (23, false) }) rfl (by kernel_rfl) (by kernel_rfl) (by kernel_rfl) (fun _ _ _ h => h) (Or.inl ⟨by rfl, fun W hSw => by obtain ⟨hs1, hs2, hs3⟩ := hSw; go_simp⟩) hHeld ?_
  try simp only [Act.put, List.setIfInBounds_toArray, List.set_cons_zero, List.set_cons_succ]
  refine wpAnyH_take (i := 31) (v := .bool false) (oi := { dst := some 43, op := Op.binOp BinOp.gtr 3 (Operand.tmp 39) (Operand.tmp 42) 3, type := 4, pos := "lens.go:97", after := #[{ on := 27, ground := Ground.data }, { on := 30, ground := Ground.data }, { on := 23, ground := Ground.guard }], guard := some (23, false) }) rfl (by kernel_rfl) (by kernel_rfl) (by kernel_rfl) (fun _ _ _ h => h) (Or.inl ⟨by rfl, fun W hSw => by obtain ⟨hs1, hs2, hs3⟩ := hSw; go_simp⟩) hHeld ?_
  try simp only [Act.put, List.setIfInBounds_toArray, List.set_cons_zero, List.set_cons_succ]
  refine wpAnyH_take (i := 32) (v := .bool false) (oi := { dst := some 44, op := Op.pick (Operand.tmp 35) (Operand.const (Value.bool true)) (Operand.tmp 43), type := 4, pos := "lens.go:97", after := #[{ on := 23, ground := Ground.data }, { on := 31, ground := Ground.data }], guard := none }) rfl (by kernel_rfl) (by kernel_rfl) (by kernel_rfl) (fun _ _ _ h => h) (Or.inl ⟨by rfl, fun W hSw => by obtain ⟨hs1, hs2, hs3⟩ := hSw; go_simp⟩) hHeld ?_
  try simp only [Act.put, List.setIfInBounds_toArray, List.set_cons_zero, List.set_cons_succ]
  refine wpAnyH_take (i := 33) (v := .bool false) (oi := { dst := some 3, op := Op.assign (Operand.tmp 44), type := 4, pos := "lens.go:97", after := #[{ on := 32, ground := Ground.data }, { on := 23, ground := Ground.chain }, { on := 0, ground := Ground.phase }, { on := 1, ground := Ground.phase }, { on := 2, ground := Ground.phase }, { on := 3, ground := Ground.phase }, { on := 4, ground := Ground.phase }, { on := 5, ground := Ground.phase }, { on := 6, ground := Ground.phase }, { on := 7, ground := Ground.phase }, { on := 8, ground := Ground.phase }, { on := 9, ground := Ground.phase }, { on := 10, ground := Ground.phase }, { on := 11, ground := Ground.phase }, { on := 12, ground := Ground.phase }, { on := 13, ground := Ground.phase }, { on := 14, ground := Ground.phase }, { on := 15, ground := Ground.phase }, { on := 16, ground := Ground.phase }, { on := 17, ground := Ground.phase }, { on := 18, ground := Ground.phase }, { on := 19, ground := Ground.phase }, { on := 20, ground := Ground.phase }, { on := 21, ground := Ground.phase }, { on := 22, ground := Ground.phase }, { on := 23, ground := Ground.phase }, { on := 24, ground := Ground.phase }, { on := 25, ground := Ground.phase }, { on := 26, ground := Ground.phase }, { on := 27, ground := Ground.phase }, { on := 28, ground := Ground.phase }, { on := 29, ground := Ground.phase }, { on := 30, ground := Ground.phase }, { on := 31, ground := Ground.phase }, { on := 32, ground := Ground.phase }], guard := none }) rfl (by kernel_rfl) (by kernel_rfl) (by kernel_rfl) (fun _ _ _ h => h) (Or.inl ⟨by rfl, fun W hSw => by obtain ⟨hs1, hs2, hs3⟩ := hSw; go_simp⟩) hHeld ?_
  try simp only [Act.put, List.setIfInBounds_toArray, List.set_cons_zero, List.set_cons_succ]
  refine wpAnyH_done (by kernel_rfl) ?_ _
  clear hHeld
  go_wp2
  go_ret
  exact ⟨rfl, HF.out _ HB2.out⟩

set_option maxHeartbeats 4000000 in
set_option maxRecDepth 100000 in
theorem wr_f (g n c l m d : Nat) (ao : Option Addr) (s x u y : Int) (w : World) (hg : w.cell? ⟨g, 0, none⟩ = some (.slice ao n c)) (hl : spl s = l) (hm : spm s = m) (_e1 : IntKind.i64.wrap ((m : Int) - l) = d)
    (_e2 : IntKind.i64.wrap ((l : Int) + x) = u) (_e3 : IntKind.i64.wrap ((320 : Int) - n) = y) (h1 : ¬ Bad 0 18 s) (h2 : ¬ Bad 0 d x) (h3 : (s == 16) = false) (h5 : decide (y < u) = true) :
    Calls Tryd.prog 97 #[.agg #[.int .i64 s, .int .i64 x], .pointer (some ⟨g, 0, none⟩)] w (Wrote w true) := by
  have HGL := Lib.hid (World.block_lt_of_cell? w _ hg)
  have HG := Lib.hid hg
  have HSP := Lib.hid (And.intro hl hm)
  have H1 := Lib.hid h1
  have H2 := Lib.hid h2
  clear h1 h2
  clear hl hm hg
  obtain ⟨B, hB⟩ : ∃ B, B = w.heap.size := ⟨_, rfl⟩
  have HC : Hid (∀ W, Below (B + 1) (w.alloc (.cells #[.int .i64 s, .int .i64 x] 147)) W → W.cell? ⟨B, 0, none⟩ = some (.int .i64 s) ∧ W.cell? ⟨B, 1, none⟩ = some (.int .i64 x) ∧ W.cell? ⟨g, 0, none⟩ = some (.slice ao n c)) := Lib.hid fun W hb => by
    subst hB
    refine ⟨(hb.cell (p := ⟨_, 0, none⟩) (Nat.lt_succ_self _)).trans ?_, (hb.cell (p := ⟨_, 1, none⟩) (Nat.lt_succ_self _)).trans ?_, (hb.cell (p := ⟨g, 0, none⟩) (Nat.lt_succ_of_lt HGL.out)).trans ?_⟩
    · simp
    · simp
    · have h1 : g ≠ w.heap.size := Nat.ne_of_lt HGL.out
      have h2 := HG.out
      simp [World.cell?_alloc_old, h1, h2]
  have HB0 : Hid (Below (B + 1) (w.alloc (.cells #[.int .i64 s, .int .i64 x] 147)) (w.alloc (.cells #[.int .i64 s, .int .i64 x] 147)).drew) := Lib.hid (by
    subst hB
    have h := (Below.refl (w.alloc (.cells #[.int .i64 s, .int .i64 x] 147)).heap.size (w.alloc (.cells #[.int .i64 s, .int .i64 x] 147))).drew
    simpa using h)
  have HF : Hid (∀ W, Below (B + 1) (w.alloc (.cells #[.int .i64 s, .int .i64 x] 147)) W → Below w.heap.size w W) := Lib.hid fun W hb => by
    subst hB
    exact ((Below.refl _ w).alloc (Nat.le_refl _) _).trans (hb.mono (Nat.le_succ _))
  have HSZ : Hid (B + 1 ≤ (w.alloc (.cells #[.int .i64 s, .int .i64 x] 147)).heap.size) := Lib.hid (by subst hB; simp)
  go_enter Tryd.func97, Tryd.ntmps97
  go_upto_region 2 with (go_at_call 98; refine (span_any _ _).mono ?_; rintro e w5 ⟨rfl, rfl⟩; rw [HSP.out.1, HSP.out.2])
  rw [← hB]
  clear hB
  generalize (w.alloc (.cells #[.int .i64 s, .int .i64 x] 147)) = w3 at *
  refine wp_region_held_drew (S := fun W => W.cell? ⟨B, 0, none⟩ = some (.int .i64 s) ∧ W.cell? ⟨B, 1, none⟩ = some (.int .i64 x) ∧ W.cell? ⟨g, 0, none⟩ = some (.slice ao n c)) (by kernel_rfl) (HC.out _ HB0.out) (fun hHeld => ?_)
  refine wpAnyH_take (i := 1) (v := .pointer (some ⟨B, 0, none⟩)) (oi := { dst := some 13, op := Op.fieldAddr 147 (Operand.tmp 2) 0, type := 0, pos := "lens.go:97", after := #[], guard := none }) rfl (by kernel_rfl) (by kernel_rfl) (by kernel_rfl) (fun _ _ _ h => h) (Or.inl ⟨by rfl, fun W hSw => by obtain ⟨hs1, hs2, hs3⟩ := hSw; go_simp⟩) hHeld ?_
  try simp only [Act.put, List.setIfInBounds_toArray, List.set_cons_zero, List.set_cons_succ]
  refine wpAnyH_take (i := 2) (v := .int .i64 s) (oi := { dst := some 14, op := Op.load 3 (Operand.tmp 13), type := 3, pos := "lens.go:97", after := #[{ on := 1, ground := Ground.data }], guard := none }) rfl (by kernel_rfl) (by kernel_rfl) (by kernel_rfl) (fun _ _ _ h => h) (Or.inl ⟨by rfl, fun W hSw => by obtain ⟨hs1, hs2, hs3⟩ := hSw; go_simp⟩) hHeld ?_
  try simp only [Act.put, List.setIfInBounds_toArray, List.set_cons_zero, List.set_cons_succ]
  refine wpAnyH_ready (rs := [0]) (by kernel_rfl) (by simp) ?_
  refine AllReadyH.cons (o := { dst := some 12, op := Op.call { callee := Callee.value (Operand.func 99), args := #[Operand.const (Value.int IntKind.i64 0), Operand.const (Value.int IntKind.i64 18)], argTypes := #[3, 3] }, type := 33, pos := "lens.go:97", after := #[], guard := none }) rfl (fun K hK => ?_) AllReadyH.nil
  refine step_call (by rfl) _ _ (run_call2 (.func 99) (.const (.int .i64 0)) (.const (.int .i64 18)) _ 99 #[] (.int .i64 0) (.int .i64 18) (fun _ => enter21 _ _) rfl rfl rfl rfl) (fun v W => ∃ p q, v = fnOut p q ∧ Kept W p q 0 18 ∧ Below (B + 1) w3 W) ?_ ?_
  · refine (outside_any 0 18 _).mono ?_
    rintro e w1 ⟨p, q, rfl, hk, hb, hp, hq⟩
    exact ⟨_, rfl, p, q, rfl, hk, HB0.out.trans (hb.mono (Nat.le_trans HSZ.out HB0.out.size))⟩
  rintro v1 w1 ⟨p1, q1, rfl, hk, hb⟩
  have HK1 := Lib.hid hk
  have HB1 := Lib.hid hb
  clear hk hb
  refine hK.out _ _ (HC.out _ HB1.out) (fun hHeld => ?_)
  clear hK K
  try simp only [Act.put, List.setIfInBounds_toArray, List.set_cons_zero, List.set_cons_succ]
  refine wpAnyH_ready (rs := [3]) (by kernel_rfl) (by simp) ?_
  refine AllReadyH.cons (o := { dst := some 15, op := Op.call { callee := Callee.value (Operand.tmp 12), args := #[Operand.tmp 14], argTypes := #[3] }, type := 4, pos := "lens.go:97", after := #[{ on := 0, ground := Ground.data }, { on := 2, ground := Ground.data }, { on := 0, ground := Ground.chain }], guard := none }) rfl (fun K hK => ?_) AllReadyH.nil
  refine step_call (by rfl) _ _ (run_call1 (.tmp 12) (.tmp 14) _ 101 #[.pointer (some ⟨p1, 0, none⟩), .pointer (some ⟨q1, 0, none⟩)] (.int .i64 s) (fun _ => enter35 _ _) rfl rfl rfl) (fun v W => v = .bool false ∧ W = w1) ?_ ?_
  · refine (bad_no p1 q1 0 18 s _ HK1.out H1.out).mono ?_
    rintro e W ⟨rfl, rfl⟩
    exact ⟨_, rfl, rfl, rfl⟩
  rintro v W ⟨rfl, rfl⟩
  refine hK.out _ _ (HC.out _ HB1.out) (fun hHeld => ?_)
  clear hK K
  try simp only [Act.put, List.setIfInBounds_toArray, List.set_cons_zero, List.set_cons_succ]
  refine wpAnyH_take (i := 4) (v := .bool false) (oi := { dst := some 16, op := Op.move (Operand.tmp 15), type := 4, pos := "lens.go:97", after := #[{ on := 3, ground := Ground.data }, { on := 3, ground := Ground.chain }], guard := none }) rfl (by kernel_rfl) (by kernel_rfl) (by kernel_rfl) (fun _ _ _ h => h) (Or.inl ⟨by rfl, fun W hSw => by obtain ⟨hs1, hs2, hs3⟩ := hSw; go_simp⟩) hHeld ?_
  try simp only [Act.put, List.setIfInBounds_toArray, List.set_cons_zero, List.set_cons_succ]
  refine wpAnyH_take (i := 5) (v := .int .i64 m) (oi := { dst := some 17, op := Op.move (Operand.tmp 5), type := 3, pos := "lens.go:97", after := #[{ on := 4, ground := Ground.guard }], guard := some (4, false) }) rfl (by kernel_rfl) (by kernel_rfl) (by kernel_rfl) (fun _ _ _ h => h) (Or.inl ⟨by rfl, fun W hSw => by obtain ⟨hs1, hs2, hs3⟩ := hSw; go_simp⟩) hHeld ?_
  try simp only [Act.put, List.setIfInBounds_toArray, List.set_cons_zero, List.set_cons_succ]
  refine wpAnyH_take (i := 6) (v := .int .i64 l) (oi := { dst := some 18, op := Op.move (Operand.tmp 4), type := 3, pos := "lens.go:97", after := #[{ on := 4, ground := Ground.guard }], guard := some (4, false) }) rfl (by kernel_rfl) (by kernel_rfl) (by kernel_rfl) (fun _ _ _ h => h) (Or.inl ⟨by rfl, fun W hSw => by obtain ⟨hs1, hs2, hs3⟩ := hSw; go_simp⟩) hHeld ?_
  try simp only [Act.put, List.setIfInBounds_toArray, List.set_cons_zero, List.set_cons_succ]
  refine wpAnyH_take (i := 7) (v := .int .i64 d) (oi := { dst := some 19, op := Op.binOp BinOp.sub 3 (Operand.tmp 17) (Operand.tmp 18) 3, type := 3, pos := "lens.go:97", after := #[{ on := 5, ground := Ground.data }, { on := 6, ground := Ground.data }, { on := 4, ground := Ground.guard }], guard := some (4, false) }) rfl (by kernel_rfl) (by kernel_rfl) (by kernel_rfl) (fun _ _ _ h => h) (Or.inl ⟨by rfl, fun W hSw => by obtain ⟨hs1, hs2, hs3⟩ := hSw; go_simp⟩) hHeld ?_
  try simp only [Act.put, List.setIfInBounds_toArray, List.set_cons_zero, List.set_cons_succ]
  refine wpAnyH_take (i := 9) (v := .pointer (some ⟨B, 1, none⟩)) (oi := { dst := some 21, op := Op.fieldAddr 147 (Operand.tmp 2) 1, type := 0, pos := "lens.go:97", after := #[{ on := 4, ground := Ground.guard }], guard := some (4, false) }) rfl (by kernel_rfl) (by kernel_rfl) (by kernel_rfl) (fun _ _ _ h => h) (Or.inl ⟨by rfl, fun W hSw => by obtain ⟨hs1, hs2, hs3⟩ := hSw; go_simp⟩) hHeld ?_
  try simp only [Act.put, List.setIfInBounds_toArray, List.set_cons_zero, List.set_cons_succ]
  refine wpAnyH_take (i := 10) (v := .int .i64 x) (oi := { dst := some 22, op := Op.load 3 (Operand.tmp 21), type := 3, pos := "lens.go:97", after := #[{ on := 9, ground := Ground.data }, { on := 4, ground := Ground.guard }], guard := some (4, false) }) rfl (by kernel_rfl) (by kernel_rfl) (by kernel_rfl) (fun _ _ _ h => h) (Or.inl ⟨by rfl, fun W hSw => by obtain ⟨hs1, hs2, hs3⟩ := hSw; go_simp⟩) hHeld ?_
  try simp only [Act.put, List.setIfInBounds_toArray, List.set_cons_zero, List.set_cons_succ]
  refine wpAnyH_ready (rs := [8]) (by kernel_rfl) (by simp) ?_
  refine AllReadyH.cons (o := { dst := some 20, op := Op.call { callee := Callee.value (Operand.func 99), args := #[Operand.const (Value.int IntKind.i64 0), Operand.tmp 19], argTypes := #[3, 3] }, type := 33, pos := "lens.go:97", after := #[{ on := 7, ground := Ground.data }, { on := 4, ground := Ground.chain }, { on := 4, ground := Ground.guard }], guard := some (4, false) }) rfl (fun K hK => ?_) AllReadyH.nil
  refine step_call (by rfl) _ _ (run_call2 (.func 99) (.const (.int .i64 0)) (.tmp 19) _ 99 #[] (.int .i64 0) (.int .i64 d) (fun _ => enter21 _ _) rfl rfl rfl rfl) (fun v W => ∃ p q, v = fnOut p q ∧ Kept W p q 0 d ∧ Below (B + 1) w3 W) ?_ ?_
  · refine (outside_any 0 d _).mono ?_
    rintro e w2 ⟨p, q, rfl, hk, hb, hp, hq⟩
    exact ⟨_, rfl, p, q, rfl, hk, HB1.out.trans (hb.mono (Nat.le_trans HSZ.out HB1.out.size))⟩
  rintro v2 w2 ⟨p2, q2, rfl, hk, hb⟩
  have HK2 := Lib.hid hk
  have HB2 := Lib.hid hb
  clear hk hb
  refine hK.out _ _ (HC.out _ HB2.out) (fun hHeld => ?_)
  clear hK K
  try simp only [Act.put, List.setIfInBounds_toArray, List.set_cons_zero, List.set_cons_succ]
  refine wpAnyH_ready (rs := [11]) (by kernel_rfl) (by simp) ?_
  refine AllReadyH.cons (o := { dst := some 23, op := Op.call { callee := Callee.value (Operand.tmp 20), args := #[Operand.tmp 22], argTypes := #[3] }, type := 4, pos := "lens.go:97", after := #[{ on := 8, ground := Ground.data }, { on := 10, ground := Ground.data }, { on := 8, ground := Ground.chain }, { on := 4, ground := Ground.guard }], guard := some (4, false) }) rfl (fun K hK => ?_) AllReadyH.nil
  refine step_call (by rfl) _ _ (run_call1 (.tmp 20) (.tmp 22) _ 101 #[.pointer (some ⟨p2, 0, none⟩), .pointer (some ⟨q2, 0, none⟩)] (.int .i64 x) (fun _ => enter35 _ _) rfl rfl rfl) (fun v W => v = .bool false ∧ W = w2) ?_ ?_
  · refine (bad_no p2 q2 0 d x _ HK2.out H2.out).mono ?_
    rintro e W ⟨rfl, rfl⟩
    exact ⟨_, rfl, rfl, rfl⟩
  rintro v W ⟨rfl, rfl⟩
  refine hK.out _ _ (HC.out _ HB2.out) (fun hHeld => ?_)
  clear hK K
  try simp only [Act.put, List.setIfInBounds_toArray, List.set_cons_zero, List.set_cons_succ]
  refine wpAnyH_take (i := 12) (v := .bool false) (oi := { dst := some 24, op := Op.pick (Operand.tmp 16) (Operand.const (Value.bool true)) (Operand.tmp 23), type := 4, pos := "lens.go:97", after := #[{ on := 4, ground := Ground.data }, { on := 11, ground := Ground.data }], guard := none }) rfl (by kernel_rfl) (by kernel_rfl) (by kernel_rfl) (fun _ _ _ h => h) (Or.inl ⟨by rfl, fun W hSw => by obtain ⟨hs1, hs2, hs3⟩ := hSw; go_simp⟩) hHeld ?_
  try simp only [Act.put, List.setIfInBounds_toArray, List.set_cons_zero, List.set_cons_succ]
  refine wpAnyH_take (i := 13) (v := .bool false) (oi := { dst := some 25, op := Op.move (Operand.tmp 24), type := 4, pos := "lens.go:97", after := #[{ on := 12, ground := Ground.data }, { on := 11, ground := Ground.chain }], guard := none }) rfl (by kernel_rfl) (by kernel_rfl) (by kernel_rfl) (fun _ _ _ h => h) (Or.inl ⟨by rfl, fun W hSw => by obtain ⟨hs1, hs2, hs3⟩ := hSw; go_simp⟩) hHeld ?_
  try simp only [Act.put, List.setIfInBounds_toArray, List.set_cons_zero, List.set_cons_succ]
  refine wpAnyH_take (i := 14) (v := .pointer (some ⟨B, 0, none⟩)) (oi := { dst := some 26, op := Op.fieldAddr 147 (Operand.tmp 2) 0, type := 0, pos := "lens.go:97", after := #[{ on := 13, ground := Ground.guard }], guard := some (13, false) }) rfl (by kernel_rfl) (by kernel_rfl) (by kernel_rfl) (fun _ _ _ h => h) (Or.inl ⟨by rfl, fun W hSw => by obtain ⟨hs1, hs2, hs3⟩ := hSw; go_simp⟩) hHeld ?_
  try simp only [Act.put, List.setIfInBounds_toArray, List.set_cons_zero, List.set_cons_succ]
  refine wpAnyH_take (i := 15) (v := .int .i64 s) (oi := { dst := some 27, op := Op.load 3 (Operand.tmp 26), type := 3, pos := "lens.go:97", after := #[{ on := 14, ground := Ground.data }, { on := 13, ground := Ground.guard }], guard := some (13, false) }) rfl (by kernel_rfl) (by kernel_rfl) (by kernel_rfl) (fun _ _ _ h => h) (Or.inl ⟨by rfl, fun W hSw => by obtain ⟨hs1, hs2, hs3⟩ := hSw; go_simp⟩) hHeld ?_
  try simp only [Act.put, List.setIfInBounds_toArray, List.set_cons_zero, List.set_cons_succ]
  refine wpAnyH_take (i := 16) (v := .bool false) (oi := { dst := some 28, op := Op.binOp BinOp.eql 3 (Operand.tmp 27) (Operand.const (Value.int IntKind.i64 16)) 3, type := 4, pos := "lens.go:97", after := #[{ on := 15, ground := Ground.data }, { on := 13, ground := Ground.guard }], guard := some (13, false) }) rfl (by kernel_rfl) (by kernel_rfl) (by kernel_rfl) (fun _ _ _ h => h) (Or.inl ⟨by rfl, fun W hSw => by obtain ⟨hs1, hs2, hs3⟩ := hSw; go_simp⟩) hHeld ?_
  try simp only [Act.put, List.setIfInBounds_toArray, List.set_cons_zero, List.set_cons_succ]
  refine wpAnyH_take (i := 17) (v := .bool false) (oi := { dst := some 29, op := Op.move (Operand.tmp 28), type := 4, pos := "lens.go:97", after := #[{ on := 16, ground := Ground.data }, { on := 13, ground := Ground.chain }, { on := 13, ground := Ground.guard }], guard := some (13, false) }) rfl (by kernel_rfl) (by kernel_rfl) (by kernel_rfl) (fun _ _ _ h => h) (Or.inl ⟨by rfl, fun W hSw => by obtain ⟨hs1, hs2, hs3⟩ := hSw; go_simp⟩) hHeld ?_
  try simp only [Act.put, List.setIfInBounds_toArray, List.set_cons_zero, List.set_cons_succ]
  refine wpAnyH_take (i := 18) (v := undef) (oi := { dst := some 30, op := Op.load 29 (Operand.tmp 1), type := 29, pos := "lens.go:97", after := #[{ on := 17, ground := Ground.guard }], guard := some (17, true) }) rfl (by kernel_rfl) (by kernel_rfl) (by kernel_rfl) (fun _ _ _ h => h) (Or.inr ⟨by rfl, rfl⟩) hHeld ?_
  try simp only [Act.put, List.setIfInBounds_toArray, List.set_cons_zero, List.set_cons_succ]
  refine wpAnyH_take (i := 19) (v := undef) (oi := { dst := some 31, op := Op.call { callee := Callee.builtin Builtin.len, args := #[Operand.tmp 30], argTypes := #[29] }, type := 3, pos := "lens.go:97", after := #[{ on := 18, ground := Ground.data }, { on := 17, ground := Ground.guard }], guard := some (17, true) }) rfl (by kernel_rfl) (by kernel_rfl) (by kernel_rfl) (fun _ _ _ h => h) (Or.inr ⟨by rfl, rfl⟩) hHeld ?_
  try simp only [Act.put, List.setIfInBounds_toArray, List.set_cons_zero, List.set_cons_succ]
  refine wpAnyH_take (i := 20) (v := undef) (oi := { dst := some 32, op := Op.binOp BinOp.eql 3 (Operand.tmp 31) (Operand.const (Value.int IntKind.i64 0)) 3, type := 4, pos := "lens.go:97", after := #[{ on := 19, ground := Ground.data }, { on := 17, ground := Ground.guard }], guard := some (17, true) }) rfl (by kernel_rfl) (by kernel_rfl) (by kernel_rfl) (fun _ _ _ h => h) (Or.inr ⟨by rfl, rfl⟩) hHeld ?_
  try simp only [Act.put, List.setIfInBounds_toArray, List.set_cons_zero, List.set_cons_succ]
  refine wpAnyH_take (i := 21) (v := .bool false) (oi := { dst := some 33, op := Op.pick (Operand.tmp 29) (Operand.tmp 32) (Operand.const (Value.bool false)), type := 4, pos := "lens.go:97", after := #[{ on := 17, ground := Ground.data }, { on := 20, ground := Ground.data }, { on := 13, ground := Ground.guard }], guard := some (13, false) }) rfl (by kernel_rfl) (by kernel_rfl) (by kernel_rfl) (fun _ _ _ h => h) (Or.inl ⟨by rfl, fun W hSw => by obtain ⟨hs1, hs2, hs3⟩ := hSw; go_simp⟩) hHeld ?_
  try simp only [Act.put, List.setIfInBounds_toArray, List.set_cons_zero, List.set_cons_succ]
  refine wpAnyH_take (i := 22) (v := .bool false) (oi := { dst := some 34, op := Op.pick (Operand.tmp 25) (Operand.const (Value.bool true)) (Operand.tmp 33), type := 4, pos := "lens.go:97", after := #[{ on := 13, ground := Ground.data }, { on := 21, ground := Ground.data }], guard := none }) rfl (by kernel_rfl) (by kernel_rfl) (by kernel_rfl) (fun _ _ _ h => h) (Or.inl ⟨by rfl, fun W hSw => by obtain ⟨hs1, hs2, hs3⟩ := hSw; go_simp⟩) hHeld ?_
  try simp only [Act.put, List.setIfInBounds_toArray, List.set_cons_zero, List.set_cons_succ]
  refine wpAnyH_take (i := 23) (v := .bool false) (oi := { dst := some 35, op := Op.move (Operand.tmp 34), type := 4, pos := "lens.go:97", after := #[{ on := 22, ground := Ground.data }, { on := 17, ground := Ground.chain }], guard := none }) rfl (by kernel_rfl) (by kernel_rfl) (by kernel_rfl) (fun _ _ _ h => h) (Or.inl ⟨by rfl, fun W hSw => by obtain ⟨hs1, hs2, hs3⟩ := hSw; go_simp⟩) hHeld ?_
  try simp only [Act.put, List.setIfInBounds_toArray, List.set_cons_zero, List.set_cons_succ]
  refine wpAnyH_take (i := 24) (v := .int .i64 l) (oi := { dst := some 36, op := Op.move (Operand.tmp 4), type := 3, pos := "lens.go:97", after := #[{ on := 23, ground := Ground.guard }], guard := some (23, false) }) rfl (by kernel_rfl) (by kernel_rfl) (by kernel_rfl) (fun _ _ _ h => h) (Or.inl ⟨by rfl, fun W hSw => by obtain ⟨hs1, hs2, hs3⟩ := hSw; go_simp⟩) hHeld ?_
  try simp only [Act.put, List.setIfInBounds_toArray, List.set_cons_zero, List.set_cons_succ]
  refine wpAnyH_take (i := 25) (v := .pointer (some ⟨B, 1, none⟩)) (oi := { dst := some 37, op := Op.fieldAddr 147 (Operand.tmp 2) 1, type := 0, pos := "lens.go:97", after := #[{ on := 23, ground := Ground.guard }], guard := some (23, false) }) rfl (by kernel_rfl) (by kernel_rfl) (by kernel_rfl) (fun _ _ _ h => h) (Or.inl ⟨by rfl, fun W hSw => by obtain ⟨hs1, hs2, hs3⟩ := hSw; go_simp⟩) hHeld ?_
  try simp only [Act.put, List.setIfInBounds_toArray, List.set_cons_zero, List.set_cons_succ]
  refine wpAnyH_take (i := 26) (v := .int .i64 x) (oi := { dst := some 38, op := Op.load 3 (Operand.tmp 37), type := 3, pos := "lens.go:97", after := #[{ on := 25, ground := Ground.data }, { on := 23, ground := Ground.guard }], guard := some (23, false) }) rfl (by kernel_rfl) (by kernel_rfl) (by kernel_rfl) (fun _ _ _ h => h) (Or.inl ⟨by rfl, fun W hSw => by obtain ⟨hs1, hs2, hs3⟩ := hSw; go_simp⟩) hHeld ?_
  try simp only [Act.put, List.setIfInBounds_toArray, List.set_cons_zero, List.set_cons_succ]
  refine wpAnyH_take (i := 27) (v := .int .i64 u) (oi := { dst := some 39, op := Op.binOp BinOp.add 3 (Operand.tmp 36) (Operand.tmp 38) 3, type := 3, pos := "lens.go:97", after := #[{ on := 24, ground := Ground.data }, { on := 26, ground := Ground.data }, { on := 23, ground := Ground.guard }], guard := some (23, false) }) rfl (by kernel_rfl) (by kernel_rfl) (by kernel_rfl) (fun _ _ _ h => h) (Or.inl ⟨by rfl, fun W hSw => by obtain ⟨hs1, hs2, hs3⟩ := hSw; go_simp⟩) hHeld ?_
  try simp only [Act.put, List.setIfInBounds_toArray, List.set_cons_zero, List.set_cons_succ]
  refine wpAnyH_take (i := 28) (v := .slice ao n c) (oi := { dst := some 40, op := Op.load 29 (Operand.tmp 1), type := 29, pos := "lens.go:97", after := #[{ on := 23, ground := Ground.guard }], guard := some (23, false) }) rfl (by kernel_rfl) (by kernel_rfl) (by kernel_rfl) (fun _ _ _ h => h) (Or.inl ⟨by rfl, fun W hSw => by obtain ⟨hs1, hs2, hs3⟩ := hSw; go_simp⟩) hHeld ?_
  try simp only [Act.put, List.setIfInBounds_toArray, List.set_cons_zero, List.set_cons_succ]
  refine wpAnyH_take (i := 29) (v := .int .i64 n) (oi := { dst := some 41, op := Op.call { callee := Callee.builtin Builtin.len, args := #[Operand.tmp 40], argTypes := #[29] }, type := 3, pos := "lens.go:97", after := #[{ on := 28, ground := Ground.data }, { on := 23, ground := Ground.guard }], guard := some (23, false) }) rfl (by kernel_rfl) (by kernel_rfl) (by kernel_rfl) (fun _ _ _ h => h) (Or.inl ⟨by rfl, fun W hSw => by obtain ⟨hs1, hs2, hs3⟩ := hSw; go_simp⟩) hHeld ?_
  try simp only [Act.put, List.setIfInBounds_toArray, List.set_cons_zero, List.set_cons_succ]
  refine wpAnyH_take (i := 30) (v := .int .i64 y) (oi := { dst := some 42, op := Op.binOp BinOp.sub 3 (Operand.const (Value.int IntKind.i64 320)) (Operand.tmp 41) 3, type := 3, pos := "lens.go:97", after := #[{ on := 29, ground := Ground.data }, { on := 23, ground := Ground.guard }], guard := some (23, false) }) rfl (by kernel_rfl) (by kernel_rfl) (by kernel_rfl) (fun _ _ _ h => h) (Or.inl ⟨by rfl, fun W hSw => by obtain ⟨hs1, hs2, hs3⟩ := hSw; go_simp⟩) hHeld ?_
  try simp only [Act.put, List.setIfInBounds_toArray, List.set_cons_zero, List.set_cons_succ]
  refine wpAnyH_take (i := 31) (v := .bool true) (oi := { dst := some 43, op := Op.binOp BinOp.gtr 3 (Operand.tmp 39) (Operand.tmp 42) 3, type := 4, pos := "lens.go:97", after := #[{ on := 27, ground := Ground.data }, { on := 30, ground := Ground.data }, { on := 23, ground := Ground.guard }], guard := some (23, false) }) rfl (by kernel_rfl) (by kernel_rfl) (by kernel_rfl) (fun _ _ _ h => h) (Or.inl ⟨by rfl, fun W hSw => by obtain ⟨hs1, hs2, hs3⟩ := hSw; go_simp⟩) hHeld ?_
  try simp only [Act.put, List.setIfInBounds_toArray, List.set_cons_zero, List.set_cons_succ]
  refine wpAnyH_take (i := 32) (v := .bool true) (oi := { dst := some 44, op := Op.pick (Operand.tmp 35) (Operand.const (Value.bool true)) (Operand.tmp 43), type := 4, pos := "lens.go:97", after := #[{ on := 23, ground := Ground.data }, { on := 31, ground := Ground.data }], guard := none }) rfl (by kernel_rfl) (by kernel_rfl) (by kernel_rfl) (fun _ _ _ h => h) (Or.inl ⟨by rfl, fun W hSw => by obtain ⟨hs1, hs2, hs3⟩ := hSw; go_simp⟩) hHeld ?_
  try simp only [Act.put, List.setIfInBounds_toArray, List.set_cons_zero, List.set_cons_succ]
  refine wpAnyH_take (i := 33) (v := .bool true) (oi := { dst := some 3, op := Op.assign (Operand.tmp 44), type := 4, pos := "lens.go:97", after := #[{ on := 32, ground := Ground.data }, { on := 23, ground := Ground.chain }, { on := 0, ground := Ground.phase }, { on := 1, ground := Ground.phase }, { on := 2, ground := Ground.phase }, { on := 3, ground := Ground.phase }, { on := 4, ground := Ground.phase }, { on := 5, ground := Ground.phase }, { on := 6, ground := Ground.phase }, { on := 7, ground := Ground.phase }, { on := 8, ground := Ground.phase }, { on := 9, ground := Ground.phase }, { on := 10, ground := Ground.phase }, { on := 11, ground := Ground.phase }, { on := 12, ground := Ground.phase }, { on := 13, ground := Ground.phase }, { on := 14, ground := Ground.phase }, { on := 15, ground := Ground.phase }, { on := 16, ground := Ground.phase }, { on := 17, ground := Ground.phase }, { on := 18, ground := Ground.phase }, { on := 19, ground := Ground.phase }, { on := 20, ground := Ground.phase }, { on := 21, ground := Ground.phase }, { on := 22, ground := Ground.phase }, { on := 23, ground := Ground.phase }, { on := 24, ground := Ground.phase }, { on := 25, ground := Ground.phase }, { on := 26, ground := Ground.phase }, { on := 27, ground := Ground.phase }, { on := 28, ground := Ground.phase }, { on := 29, ground := Ground.phase }, { on := 30, ground := Ground.phase }, { on := 31, ground := Ground.phase }, { on := 32, ground := Ground.phase }], guard := none }) rfl (by kernel_rfl) (by kernel_rfl) (by kernel_rfl) (fun _ _ _ h => h) (Or.inl ⟨by rfl, fun W hSw => by obtain ⟨hs1, hs2, hs3⟩ := hSw; go_simp⟩) hHeld ?_
  try simp only [Act.put, List.setIfInBounds_toArray, List.set_cons_zero, List.set_cons_succ]
  refine wpAnyH_done (by kernel_rfl) ?_ _
  clear hHeld
  go_wp2
  go_ret
  exact ⟨rfl, HF.out _ HB2.out⟩

set_option maxHeartbeats 4000000 in
set_option maxRecDepth 100000 in
theorem wr_g (g n c l m d : Nat) (ao : Option Addr) (s x u y : Int) (w : World) (hg : w.cell? ⟨g, 0, none⟩ = some (.slice ao n c)) (hl : spl s = l) (hm : spm s = m) (_e1 : IntKind.i64.wrap ((m : Int) - l) = d)
    (_e2 : IntKind.i64.wrap ((l : Int) + x) = u) (_e3 : IntKind.i64.wrap ((320 : Int) - n) = y) (h1 : ¬ Bad 0 18 s) (h2 : ¬ Bad 0 d x) (h3 : (s == 16) = false) (h5 : decide (y < u) = false) :
    Calls Tryd.prog 97 #[.agg #[.int .i64 s, .int .i64 x], .pointer (some ⟨g, 0, none⟩)] w (Wrote w false) := by
  have HGL := Lib.hid (World.block_lt_of_cell? w _ hg)
  have HG := Lib.hid hg
  have HSP := Lib.hid (And.intro hl hm)
  have H1 := Lib.hid h1
  have H2 := Lib.hid h2
  clear h1 h2
  clear hl hm hg
  obtain ⟨B, hB⟩ : ∃ B, B = w.heap.size := ⟨_, rfl⟩
  have HC : Hid (∀ W, Below (B + 1) (w.alloc (.cells #[.int .i64 s, .int .i64 x] 147)) W → W.cell? ⟨B, 0, none⟩ = some (.int .i64 s) ∧ W.cell? ⟨B, 1, none⟩ = some (.int .i64 x) ∧ W.cell? ⟨g, 0, none⟩ = some (.slice ao n c)) := Lib.hid fun W hb => by
    subst hB
    refine ⟨(hb.cell (p := ⟨_, 0, none⟩) (Nat.lt_succ_self _)).trans ?_, (hb.cell (p := ⟨_, 1, none⟩) (Nat.lt_succ_self _)).trans ?_, (hb.cell (p := ⟨g, 0, none⟩) (Nat.lt_succ_of_lt HGL.out)).trans ?_⟩
    · simp
    · simp
    · have h1 : g ≠ w.heap.size := Nat.ne_of_lt HGL.out
      have h2 := HG.out
      simp [World.cell?_alloc_old, h1, h2]
  have HB0 : Hid (Below (B + 1) (w.alloc (.cells #[.int .i64 s, .int .i64 x] 147)) (w.alloc (.cells #[.int .i64 s, .int .i64 x] 147)).drew) := Lib.hid (by
    subst hB
    have h := (Below.refl (w.alloc (.cells #[.int .i64 s, .int .i64 x] 147)).heap.size (w.alloc (.cells #[.int .i64 s, .int .i64 x] 147))).drew
    simpa using h)
  have HF : Hid (∀ W, Below (B + 1) (w.alloc (.cells #[.int .i64 s, .int .i64 x] 147)) W → Below w.heap.size w W) := Lib.hid fun W hb => by
    subst hB
    exact ((Below.refl _ w).alloc (Nat.le_refl _) _).trans (hb.mono (Nat.le_succ _))
  have HSZ : Hid (B + 1 ≤ (w.alloc (.cells #[.int .i64 s, .int .i64 x] 147)).heap.size) := Lib.hid (by subst hB; simp)
  go_enter Tryd.func97, Tryd.ntmps97
  go_upto_region 2 with (go_at_call 98; refine (span_any _ _).mono ?_; rintro e w5 ⟨rfl, rfl⟩; rw [HSP.out.1, HSP.out.2])
  rw [← hB]
  clear hB
  generalize (w.alloc (.cells #[.int .i64 s, .int .i64 x] 147)) = w3 at *
  refine wp_region_held_drew (S := fun W => W.cell? ⟨B, 0, none⟩ = some (.int .i64 s) ∧ W.cell? ⟨B, 1, none⟩ = some (.int .i64 x) ∧ W.cell? ⟨g, 0, none⟩ = some (.slice ao n c)) (by kernel_rfl) (HC.out _ HB0.out) (fun hHeld => ?_)
  refine wpAnyH_take (i := 1) (v := .pointer (some ⟨B, 0, none⟩)) (oi := { dst := some 13, op := Op.fieldAddr 147 (Operand.tmp 2) 0, type := 0, pos := "lens.go:97", after := #[], guard := none }) rfl (by kernel_rfl) (by kernel_rfl) (by kernel_rfl) (fun _ _ _ h => h) (Or.inl ⟨by rfl, fun W hSw => by obtain ⟨hs1, hs2, hs3⟩ := hSw; go_simp⟩) hHeld ?_
  try simp only [Act.put, List.setIfInBounds_toArray, List.set_cons_zero, List.set_cons_succ]
  refine wpAnyH_take (i := 2) (v := .int .i64 s) (oi := { dst := some 14, op := Op.load 3 (Operand.tmp 13), type := 3, pos := "lens.go:97", after := #[{ on := 1, ground := Ground.data }], guard := none }) rfl (by kernel_rfl) (by kernel_rfl) (by kernel_rfl) (fun _ _ _ h => h) (Or.inl ⟨by rfl, fun W hSw => by obtain ⟨hs1, hs2, hs3⟩ := hSw; go_simp⟩) hHeld ?_
  try simp only [Act.put, List.setIfInBounds_toArray, List.set_cons_zero, List.set_cons_succ]
  refine wpAnyH_ready (rs := [0]) (by kernel_rfl) (by simp) ?_
  refine AllReadyH.cons (o := { dst := some 12, op := Op.call { callee := Callee.value (Operand.func 99), args := #[Operand.const (Value.int IntKind.i64 0), Operand.const (Value.int IntKind.i64 18)], argTypes := #[3, 3] }, type := 33, pos := "lens.go:97", after := #[], guard := none }) rfl (fun K hK => ?_) AllReadyH.nil
  refine step_call (by rfl) _ _ (run_call2 (.func 99) (.const (.int .i64 0)) (.const (.int .i64 18)) _ 99 #[] (.int .i64 0) (.int .i64 18) (fun _ => enter21 _ _) rfl rfl rfl rfl) (fun v W => ∃ p q, v = fnOut p q ∧ Kept W p q 0 18 ∧ Below (B + 1) w3 W) ?_ ?_
  · refine (outside_any 0 18 _).mono ?_
    rintro e w1 ⟨p, q, rfl, hk, hb, hp, hq⟩
    exact ⟨_, rfl, p, q, rfl, hk, HB0.out.trans (hb.mono (Nat.le_trans HSZ.out HB0.out.size))⟩
  rintro v1 w1 ⟨p1, q1, rfl, hk, hb⟩
  have HK1 := Lib.hid hk
  have HB1 := Lib.hid hb
  clear hk hb
  refine hK.out _ _ (HC.out _ HB1.out) (fun hHeld => ?_)
  clear hK K
  try simp only [Act.put, List.setIfInBounds_toArray, List.set_cons_zero, List.set_cons_succ]
  refine wpAnyH_ready (rs := [3]) (by kernel_rfl) (by simp) ?_
  refine AllReadyH.cons (o := { dst := some 15, op := Op.call { callee := Callee.value (Operand.tmp 12), args := #[Operand.tmp 14], argTypes := #[3] }, type := 4, pos := "lens.go:97", after := #[{ on := 0, ground := Ground.data }, { on := 2, ground := Ground.data }, { on := 0, ground := Ground.chain }], guard := none }) rfl (fun K hK => ?_) AllReadyH.nil
  refine step_call (by rfl) _ _ (run_call1 (.tmp 12) (.tmp 14) _ 101 #[.pointer (some ⟨p1, 0, none⟩), .pointer (some ⟨q1, 0, none⟩)] (.int .i64 s) (fun _ => enter35 _ _) rfl rfl rfl) (fun v W => v = .bool false ∧ W = w1) ?_ ?_
  · refine (bad_no p1 q1 0 18 s _ HK1.out H1.out).mono ?_
    rintro e W ⟨rfl, rfl⟩
    exact ⟨_, rfl, rfl, rfl⟩
  rintro v W ⟨rfl, rfl⟩
  refine hK.out _ _ (HC.out _ HB1.out) (fun hHeld => ?_)
  clear hK K
  try simp only [Act.put, List.setIfInBounds_toArray, List.set_cons_zero, List.set_cons_succ]
  refine wpAnyH_take (i := 4) (v := .bool false) (oi := { dst := some 16, op := Op.move (Operand.tmp 15), type := 4, pos := "lens.go:97", after := #[{ on := 3, ground := Ground.data }, { on := 3, ground := Ground.chain }], guard := none }) rfl (by kernel_rfl) (by kernel_rfl) (by kernel_rfl) (fun _ _ _ h => h) (Or.inl ⟨by rfl, fun W hSw => by obtain ⟨hs1, hs2, hs3⟩ := hSw; go_simp⟩) hHeld ?_
  try simp only [Act.put, List.setIfInBounds_toArray, List.set_cons_zero, List.set_cons_succ]
  refine wpAnyH_take (i := 5) (v := .int .i64 m) (oi := { dst := some 17, op := Op.move (Operand.tmp 5), type := 3, pos := "lens.go:97", after := #[{ on := 4, ground := Ground.guard }], guard := some (4, false) }) rfl (by kernel_rfl) (by kernel_rfl) (by kernel_rfl) (fun _ _ _ h => h) (Or.inl ⟨by rfl, fun W hSw => by obtain ⟨hs1, hs2, hs3⟩ := hSw; go_simp⟩) hHeld ?_
  try simp only [Act.put, List.setIfInBounds_toArray, List.set_cons_zero, List.set_cons_succ]
  refine wpAnyH_take (i := 6) (v := .int .i64 l) (oi := { dst := some 18, op := Op.move (Operand.tmp 4), type := 3, pos := "lens.go:97", after := #[{ on := 4, ground := Ground.guard }], guard := some (4, false) }) rfl (by kernel_rfl) (by kernel_rfl) (by kernel_rfl) (fun _ _ _ h => h) (Or.inl ⟨by rfl, fun W hSw => by obtain ⟨hs1, hs2, hs3⟩ := hSw; go_simp⟩) hHeld ?_
  try simp only [Act.put, List.setIfInBounds_toArray, List.set_cons_zero, List.set_cons_succ]
  refine wpAnyH_take (i := 7) (v := .int .i64 d) (oi := { dst := some 19, op := Op.binOp BinOp.sub 3 (Operand.tmp 17) (Operand.tmp 18) 3, type := 3, pos := "lens.go:97", after := #[{ on := 5, ground := Ground.data }, { on := 6, ground := Ground.data }, { on := 4, ground := Ground.guard }], guard := some (4, false) }) rfl (by kernel_rfl) (by kernel_rfl) (by kernel_rfl) (fun _ _ _ h => h) (Or.inl ⟨by rfl, fun W hSw => by obtain ⟨hs1, hs2, hs3⟩ := hSw; go_simp⟩) hHeld ?_
  try simp only [Act.put, List.setIfInBounds_toArray, List.set_cons_zero, List.set_cons_succ]
  refine wpAnyH_take (i := 9) (v := .pointer (some ⟨B, 1, none⟩)) (oi := { dst := some 21, op := Op.fieldAddr 147 (Operand.tmp 2) 1, type := 0, pos := "lens.go:97", after := #[{ on := 4, ground := Ground.guard }], guard := some (4, false) }) rfl (by kernel_rfl) (by kernel_rfl) (by kernel_rfl) (fun _ _ _ h => h) (Or.inl ⟨by rfl, fun W hSw => by obtain ⟨hs1, hs2, hs3⟩ := hSw; go_simp⟩) hHeld ?_
  try simp only [Act.put, List.setIfInBounds_toArray, List.set_cons_zero, List.set_cons_succ]
  refine wpAnyH_take (i := 10) (v := .int .i64 x) (oi := { dst := some 22, op := Op.load 3 (Operand.tmp 21), type := 3, pos := "lens.go:97", after := #[{ on := 9, ground := Ground.data }, { on := 4, ground := Ground.guard }], guard := some (4, false) }) rfl (by kernel_rfl) (by kernel_rfl) (by kernel_rfl) (fun _ _ _ h => h) (Or.inl ⟨by rfl, fun W hSw => by obtain ⟨hs1, hs2, hs3⟩ := hSw; go_simp⟩) hHeld ?_
  try simp only [Act.put, List.setIfInBounds_toArray, List.set_cons_zero, List.set_cons_succ]
  refine wpAnyH_ready (rs := [8]) (by kernel_rfl) (by simp) ?_
  refine AllReadyH.cons (o := { dst := some 20, op := Op.call { callee := Callee.value (Operand.func 99), args := #[Operand.const (Value.int IntKind.i64 0), Operand.tmp 19], argTypes := #[3, 3] }, type := 33, pos := "lens.go:97", after := #[{ on := 7, ground := Ground.data }, { on := 4, ground := Ground.chain }, { on := 4, ground := Ground.guard }], guard := some (4, false) }) rfl (fun K hK => ?_) AllReadyH.nil
  refine step_call (by rfl) _ _ (run_call2 (.func 99) (.const (.int .i64 0)) (.tmp 19) _ 99 #[] (.int .i64 0) (.int .i64 d) (fun _ => enter21 _ _) rfl rfl rfl rfl) (fun v W => ∃ p q, v = fnOut p q ∧ Kept W p q 0 d ∧ Below (B + 1) w3 W) ?_ ?_
  · refine (outside_any 0 d _).mono ?_
    rintro e w2 ⟨p, q, rfl, hk, hb, hp, hq⟩
    exact ⟨_, rfl, p, q, rfl, hk, HB1.out.trans (hb.mono (Nat.le_trans HSZ.out HB1.out.size))⟩
  rintro v2 w2 ⟨p2, q2, rfl, hk, hb⟩
  have HK2 := Lib.hid hk
  have HB2 := Lib.hid hb
  clear hk hb
  refine hK.out _ _ (HC.out _ HB2.out) (fun hHeld => ?_)
  clear hK K
  try simp only [Act.put, List.setIfInBounds_toArray, List.set_cons_zero, List.set_cons_succ]
  refine wpAnyH_ready (rs := [11]) (by kernel_rfl) (by simp) ?_
  refine AllReadyH.cons (o := { dst := some 23, op := Op.call { callee := Callee.value (Operand.tmp 20), args := #[Operand.tmp 22], argTypes := #[3] }, type := 4, pos := "lens.go:97", after := #[{ on := 8, ground := Ground.data }, { on := 10, ground := Ground.data }, { on := 8, ground := Ground.chain }, { on := 4, ground := Ground.guard }], guard := some (4, false) }) rfl (fun K hK => ?_) AllReadyH.nil
  refine step_call (by rfl) _ _ (run_call1 (.tmp 20) (.tmp 22) _ 101 #[.pointer (some ⟨p2, 0, none⟩), .pointer (some ⟨q2, 0, none⟩)] (.int .i64 x) (fun _ => enter35 _ _) rfl rfl rfl) (fun v W => v = .bool false ∧ W = w2) ?_ ?_
  · refine (bad_no p2 q2 0 d x _ HK2.out H2.out).mono ?_
    rintro e W ⟨rfl, rfl⟩
    exact ⟨_, rfl, rfl, rfl⟩
  rintro v W ⟨rfl, rfl⟩
  refine hK.out _ _ (HC.out _ HB2.out) (fun hHeld => ?_)
  clear hK K
  try simp only [Act.put, List.setIfInBounds_toArray, List.set_cons_zero, List.set_cons_succ]
  refine wpAnyH_take (i := 12) (v := .bool false) (oi := { dst := some 24, op := Op.pick (Operand.tmp 16) (Operand.const (Value.bool true)) (Operand.tmp 23), type := 4, pos := "lens.go:97", after := #[{ on := 4, ground := Ground.data }, { on := 11, ground := Ground.data }], guard := none }) rfl (by kernel_rfl) (by kernel_rfl) (by kernel_rfl) (fun _ _ _ h => h) (Or.inl ⟨by rfl, fun W hSw => by obtain ⟨hs1, hs2, hs3⟩ := hSw; go_simp⟩) hHeld ?_
  try simp only [Act.put, List.setIfInBounds_toArray, List.set_cons_zero, List.set_cons_succ]
  refine wpAnyH_take (i := 13) (v := .bool false) (oi := { dst := some 25, op := Op.move (Operand.tmp 24), type := 4, pos := "lens.go:97", after := #[{ on := 12, ground := Ground.data }, { on := 11, ground := Ground.chain }], guard := none }) rfl (by kernel_rfl) (by kernel_rfl) (by kernel_rfl) (fun _ _ _ h => h) (Or.inl ⟨by rfl, fun W hSw => by obtain ⟨hs1, hs2, hs3⟩ := hSw; go_simp⟩) hHeld ?_
  try simp only [Act.put, List.setIfInBounds_toArray, List.set_cons_zero, List.set_cons_succ]
  refine wpAnyH_take (i := 14) (v := .pointer (some ⟨B, 0, none⟩)) (oi := { dst := some 26, op := Op.fieldAddr 147 (Operand.tmp 2) 0, type := 0, pos := "lens.go:97", after := #[{ on := 13, ground := Ground.guard }], guard := some (13, false) }) rfl (by kernel_rfl) (by kernel_rfl) (by kernel_rfl) (fun _ _ _ h => h) (Or.inl ⟨by rfl, fun W hSw => by obtain ⟨hs1, hs2, hs3⟩ := hSw; go_simp⟩) hHeld ?_
  try simp only [Act.put, List.setIfInBounds_toArray, List.set_cons_zero, List.set_cons_succ]
  refine wpAnyH_take (i := 15) (v := .int .i64 s) (oi := { dst := some 27, op := Op.load 3 (Operand.tmp 26), type := 3, pos := "lens.go:97", after := #[{ on := 14, ground := Ground.data }, { on := 13, ground := Ground.guard }], guard := some (13, false) }) rfl (by kernel_rfl) (by kernel_rfl) (by kernel_rfl) (fun _ _ _ h => h) (Or.inl ⟨by rfl, fun W hSw => by obtain ⟨hs1, hs2, hs3⟩ := hSw; go_simp⟩) hHeld ?_
  try simp only [Act.put, List.setIfInBounds_toArray, List.set_cons_zero, List.set_cons_succ]
  refine wpAnyH_take (i := 16) (v := .bool false) (oi := { dst := some 28, op := Op.binOp BinOp.eql 3 (Operand.tmp 27) (Operand.const (Value.int IntKind.i64 16)) 3, type := 4, pos := "lens.go:97", after := #[{ on := 15, ground := Ground.data }, { on := 13, ground := Ground.guard }], guard := some (13, false) }) rfl (by kernel_rfl) (by kernel_rfl) (by kernel_rfl) (fun _ _ _ h => h) (Or.inl ⟨by rfl, fun W hSw => by obtain ⟨hs1, hs2, hs3⟩ := hSw; go_simp⟩) hHeld ?_
  try simp only [Act.put, List.setIfInBounds_toArray, List.set_cons_zero, List.set_cons_succ]
  refine wpAnyH_take (i := 17) (v := .bool false) (oi := { dst := some 29, op := Op.move (Operand.tmp 28), type := 4, pos := "lens.go:97", after := #[{ on := 16, ground := Ground.data }, { on := 13, ground := Ground.chain }, { on := 13, ground := Ground.guard }], guard := some (13, false) }) rfl (by kernel_rfl) (by kernel_rfl) (by kernel_rfl) (fun _ _ _ h => h) (Or.inl ⟨by rfl, fun W hSw => by obtain ⟨hs1, hs2, hs3⟩ := hSw; go_simp⟩) hHeld ?_
  try simp only [Act.put, List.setIfInBounds_toArray, List.set_cons_zero, List.set_cons_succ]
  refine wpAnyH_take (i := 18) (v := undef) (oi := { dst := some 30, op := Op.load 29 (Operand.tmp 1), type := 29, pos := "lens.go:97", after := #[{ on := 17, ground := Ground.guard }], guard := some (17, true) }) rfl (by kernel_rfl) (by kernel_rfl) (by kernel_rfl) (fun _ _ _ h => h) (Or.inr ⟨by rfl, rfl⟩) hHeld ?_
  try simp only [Act.put, List.setIfInBounds_toArray, List.set_cons_zero, List.set_cons_succ]
  refine wpAnyH_take (i := 19) (v := undef) (oi := { dst := some 31, op := Op.call { callee := Callee.builtin Builtin.len, args := #[Operand.tmp 30], argTypes := #[29] }, type := 3, pos := "lens.go:97", after := #[{ on := 18, ground := Ground.data }, { on := 17, ground := Ground.guard }], guard := some (17, true) }) rfl (by kernel_rfl) (by kernel_rfl) (by kernel_rfl) (fun _ _ _ h => h) (Or.inr ⟨by rfl, rfl⟩) hHeld ?_
  try simp only [Act.put, List.setIfInBounds_toArray, List.set_cons_zero, List.set_cons_succ]
  refine wpAnyH_take (i := 20) (v := undef) (oi := { dst := some 32, op := Op.binOp BinOp.eql 3 (Operand.tmp 31) (Operand.const (Value.int IntKind.i64 0)) 3, type := 4, pos := "lens.go:97", after := #[{ on := 19, ground := Ground.data }, { on := 17, ground := Ground.guard }], guard := some (17, true) }) rfl (by kernel_rfl) (by kernel_rfl) (by kernel_rfl) (fun _ _ _ h => h) (Or.inr ⟨by rfl, rfl⟩) hHeld ?_
  try simp only [Act.put, List.setIfInBounds_toArray, List.set_cons_zero, List.set_cons_succ]
  refine wpAnyH_take (i := 21) (v := .bool false) (oi := { dst := some 33, op := Op.pick (Operand.tmp 29) (Operand.tmp 32) (Operand.const (Value.bool false)), type := 4, pos := "lens.go:97", after := #[{ on := 17, ground := Ground.data }, { on := 20, ground := Ground.data }, { on := 13, ground := Ground.guard }], guard := some (13, false) }) rfl (by kernel_rfl) (by kernel_rfl) (by kernel_rfl) (fun _ _ _ h => h) (Or.inl ⟨by rfl, fun W hSw => by obtain ⟨hs1, hs2, hs3⟩ := hSw; go_simp⟩) hHeld ?_
  try simp only [Act.put, List.setIfInBounds_toArray, List.set_cons_zero, List.set_cons_succ]
  refine wpAnyH_take (i := 22) (v := .bool false) (oi := { dst := some 34, op := Op.pick (Operand.tmp 25) (Operand.const (Value.bool true)) (Operand.tmp 33), type := 4, pos := "lens.go:97", after := #[{ on := 13, ground := Ground.data }, { on := 21, ground := Ground.data }], guard := none }) rfl (by kernel_rfl) (by kernel_rfl) (by kernel_rfl) (fun _ _ _ h => h) (Or.inl ⟨by rfl, fun W hSw => by obtain ⟨hs1, hs2, hs3⟩ := hSw; go_simp⟩) hHeld ?_
  try simp only [Act.put, List.setIfInBounds_toArray, List.set_cons_zero, List.set_cons_succ]
  refine wpAnyH_take (i := 23) (v := .bool false) (oi := { dst := some 35, op := Op.move (Operand.tmp 34), type := 4, pos := "lens.go:97", after := #[{ on := 22, ground := Ground.data }, { on := 17, ground := Ground.chain }], guard := none }) rfl (by kernel_rfl) (by kernel_rfl) (by kernel_rfl) (fun _ _ _ h => h) (Or.inl ⟨by rfl, fun W hSw => by obtain ⟨hs1, hs2, hs3⟩ := hSw; go_simp⟩) hHeld ?_
  try simp only [Act.put, List.setIfInBounds_toArray, List.set_cons_zero, List.set_cons_succ]
  refine wpAnyH_take (i := 24) (v := .int .i64 l) (oi := { dst := some 36, op := Op.move (Operand.tmp 4), type := 3, pos := "lens.go:97", after := #[{ on := 23, ground := Ground.guard }], guard := some (23, false) }) rfl (by kernel_rfl) (by kernel_rfl) (by kernel_rfl) (fun _ _ _ h => h) (Or.inl ⟨by rfl, fun W hSw => by obtain ⟨hs1, hs2, hs3⟩ := hSw; go_simp⟩) hHeld ?_
  try simp only [Act.put, List.setIfInBounds_toArray, List.set_cons_zero, List.set_cons_succ]
  refine wpAnyH_take (i := 25) (v := .pointer (some ⟨B, 1, none⟩)) (oi := { dst := some 37, op := Op.fieldAddr 147 (Operand.tmp 2) 1, type := 0, pos := "lens.go:97", after := #[{ on := 23, ground := Ground.guard }], guard := some (23, false) }) rfl (by kernel_rfl) (by kernel_rfl) (by kernel_rfl) (fun _ _ _ h => h) (Or.inl ⟨by rfl, fun W hSw => by obtain ⟨hs1, hs2, hs3⟩ := hSw; go_simp⟩) hHeld ?_
  try simp only [Act.put, List.setIfInBounds_toArray, List.set_cons_zero, List.set_cons_succ]
  refine wpAnyH_take (i := 26) (v := .int .i64 x) (oi := { dst := some 38, op := Op.load 3 (Operand.tmp 37), type := 3, pos := "lens.go:97", after := #[{ on := 25, ground := Ground.data }, { on := 23, ground := Ground.guard }], guard := some (23, false) }) rfl (by kernel_rfl) (by kernel_rfl) (by kernel_rfl) (fun _ _ _ h => h) (Or.inl ⟨by rfl, fun W hSw => by obtain ⟨hs1, hs2, hs3⟩ := hSw; go_simp⟩) hHeld ?_
  try simp only [Act.put, List.setIfInBounds_toArray, List.set_cons_zero, List.set_cons_succ]
  refine wpAnyH_take (i := 27) (v := .int .i64 u) (oi := { dst := some 39, op := Op.binOp BinOp.add 3 (Operand.tmp 36) (Operand.tmp 38) 3, type := 3, pos := "lens.go:97", after := #[{ on := 24, ground := Ground.data }, { on := 26, ground := Ground.data }, { on := 23, ground := Ground.guard }], guard := some (23, false) }) rfl (by kernel_rfl) (by kernel_rfl) (by kernel_rfl) (fun _ _ _ h => h) (Or.inl ⟨by rfl, fun W hSw => by obtain ⟨hs1, hs2, hs3⟩ := hSw; go_simp⟩) hHeld ?_
  try simp only [Act.put, List.setIfInBounds_toArray, List.set_cons_zero, List.set_cons_succ]
  refine wpAnyH_take (i := 28) (v := .slice ao n c) (oi := { dst := some 40, op := Op.load 29 (Operand.tmp 1), type := 29, pos := "lens.go:97", after := #[{ on := 23, ground := Ground.guard }], guard := some (23, false) }) rfl (by kernel_rfl) (by kernel_rfl) (by kernel_rfl) (fun _ _ _ h => h) (Or.inl ⟨by rfl, fun W hSw => by obtain ⟨hs1, hs2, hs3⟩ := hSw; go_simp⟩) hHeld ?_
  try simp only [Act.put, List.setIfInBounds_toArray, List.set_cons_zero, List.set_cons_succ]
  refine wpAnyH_take (i := 29) (v := .int .i64 n) (oi := { dst := some 41, op := Op.call { callee := Callee.builtin Builtin.len, args := #[Operand.tmp 40], argTypes := #[29] }, type := 3, pos := "lens.go:97", after := #[{ on := 28, ground := Ground.data }, { on := 23, ground := Ground.guard }], guard := some (23, false) }) rfl (by kernel_rfl) (by kernel_rfl) (by kernel_rfl) (fun _ _ _ h => h) (Or.inl ⟨by rfl, fun W hSw => by obtain ⟨hs1, hs2, hs3⟩ := hSw; go_simp⟩) hHeld ?_
  try simp only [Act.put, List.setIfInBounds_toArray, List.set_cons_zero, List.set_cons_succ]
  refine wpAnyH_take (i := 30) (v := .int .i64 y) (oi := { dst := some 42, op := Op.binOp BinOp.sub 3 (Operand.const (Value.int IntKind.i64 320)) (Operand.tmp 41) 3, type := 3, pos := "lens.go:97", after := #[{ on := 29, ground := Ground.data }, { on := 23, ground := Ground.guard }], guard := some (23, false) }) rfl (by kernel_rfl) (by kernel_rfl) (by kernel_rfl) (fun _ _ _ h => h) (Or.inl ⟨by rfl, fun W hSw => by obtain ⟨hs1, hs2, hs3⟩ := hSw; go_simp⟩) hHeld ?_
  try simp only [Act.put, List.setIfInBounds_toArray, List.set_cons_zero, List.set_cons_succ]
  refine wpAnyH_take (i := 31) (v := .bool false) (oi := { dst := some 43, op := Op.binOp BinOp.gtr 3 (Operand.tmp 39) (Operand.tmp 42) 3, type := 4, pos := "lens.go:97", after := #[{ on := 27, ground := Ground.data }, { on := 30, ground := Ground.data }, { on := 23, ground := Ground.guard }], guard := some (23, false) }) rfl (by kernel_rfl) (by kernel_rfl) (by kernel_rfl) (fun _ _ _ h => h) (Or.inl ⟨by rfl, fun W hSw => by obtain ⟨hs1, hs2, hs3⟩ := hSw; go_simp⟩) hHeld ?_
  try simp only [Act.put, List.setIfInBounds_toArray, List.set_cons_zero, List.set_cons_succ]
  refine wpAnyH_take (i := 32) (v := .bool false) (oi := { dst := some 44, op := Op.pick (Operand.tmp 35) (Operand.const (Value.bool true)) (Operand.tmp 43), type := 4, pos := "lens.go:97", after := #[{ on := 23, ground := Ground.data }, { on := 31, ground := Ground.data }], guard := none }) rfl (by kernel_rfl) (by kernel_rfl) (by kernel_rfl) (fun _ _ _ h => h) (Or.inl ⟨by rfl, fun W hSw => by obtain ⟨hs1, hs2, hs3⟩ := hSw; go_simp⟩) hHeld ?_
  try simp only [Act.put, List.setIfInBounds_toArray, List.set_cons_zero, List.set_cons_succ]
  refine wpAnyH_take (i := 33) (v := .bool false) (oi := { dst := some 3, op := Op.assign (Operand.tmp 44), type := 4, pos := "lens.go:97", after := #[{ on := 32, ground := Ground.data }, { on := 23, ground := Ground.chain }, { on := 0, ground := Ground.phase }, { on := 1, ground := Ground.phase }, { on := 2, ground := Ground.phase }, { on := 3, ground := Ground.phase }, { on := 4, ground := Ground.phase }, { on := 5, ground := Ground.phase }, { on := 6, ground := Ground.phase }, { on := 7, ground := Ground.phase }, { on := 8, ground := Ground.phase }, { on := 9, ground := Ground.phase }, { on := 10, ground := Ground.phase }, { on := 11, ground := Ground.phase }, { on := 12, ground := Ground.phase }, { on := 13, ground := Ground.phase }, { on := 14, ground := Ground.phase }, { on := 15, ground := Ground.phase }, { on := 16, ground := Ground.phase }, { on := 17, ground := Ground.phase }, { on := 18, ground := Ground.phase }, { on := 19, ground := Ground.phase }, { on := 20, ground := Ground.phase }, { on := 21, ground := Ground.phase }, { on := 22, ground := Ground.phase }, { on := 23, ground := Ground.phase }, { on := 24, ground := Ground.phase }, { on := 25, ground := Ground.phase }, { on := 26, ground := Ground.phase }, { on := 27, ground := Ground.phase }, { on := 28, ground := Ground.phase }, { on := 29, ground := Ground.phase }, { on := 30, ground := Ground.phase }, { on := 31, ground := Ground.phase }, { on := 32, ground := Ground.phase }], guard := none }) rfl (by kernel_rfl) (by kernel_rfl) (by kernel_rfl) (fun _ _ _ h => h) (Or.inl ⟨by rfl, fun W hSw => by obtain ⟨hs1, hs2, hs3⟩ := hSw; go_simp⟩) hHeld ?_
  try simp only [Act.put, List.setIfInBounds_toArray, List.set_cons_zero, List.set_cons_succ]
  refine wpAnyH_done (by kernel_rfl) ?_ _
  clear hHeld
  go_wp2
  go_ret
  exact ⟨rfl, HF.out _ HB2.out⟩
end Go.Proofs.YtnnkegpnjedneaaDoor.Z


/-
  Contract: the closure that tells items out of bounds, in one.
-/
namespace Go.Proofs.YtnnkegpnjedneaaDoor.Z
open Go.RowKit
set_option maxRecDepth 100000

theorem wrong_any (g n c : Nat) (ao : Option Addr) (s x : Int) (w : World) (hg : w.cell? ⟨g, 0, none⟩ = some (.slice ao n c)) (hn : n ≤ 320) :
    Calls Tryd.prog 97 #[.agg #[.int .i64 s, .int .i64 x], .pointer (some ⟨g, 0, none⟩)] w (Wrote w (decide (Wi s x n))) := by
  have hs := sp_lim s
  have e1 : IntKind.i64.wrap ((spm s : Int) - spl s) = ((spm s - spl s : Nat) : Int) := by rw [IntKind.wrap_i64]; omega
  have e3 : IntKind.i64.wrap ((320 : Int) - n) = 320 - n := by rw [IntKind.wrap_i64]; omega
  have e5 : ((spm s - spl s : Nat) : Int) = (spm s : Int) - spl s := by omega
  by_cases h1 : Bad 0 18 s
  · rw [decide_eq_true (show Wi s x n from .inl h1)]
    exact wr_a g n c (spl s) (spm s) _ ao s x _ _ w hg rfl rfl e1 rfl e3 h1
  · by_cases h2 : Bad 0 ((spm s : Int) - spl s) x
    · rw [decide_eq_true (show Wi s x n from .inr (.inl h2))]
      exact wr_b g n c (spl s) (spm s) _ ao s x _ _ w hg rfl rfl e1 rfl e3 h1 (by rw [e5]; exact h2)
    · have e2 : IntKind.i64.wrap ((spl s : Int) + x) = spl s + x := by unfold Bad at h2; rw [IntKind.wrap_i64]; omega
      have h2' : ¬ Bad 0 ((spm s - spl s : Nat) : Int) x := by rw [e5]; exact h2
      by_cases h3 : s = 16
      · have h3' : (s == 16) = true := by simp [h3]
        by_cases h4 : n = 0
        · rw [decide_eq_true (show Wi s x n from .inr (.inr (.inl ⟨h3, h4⟩)))]
          exact wr_c g n c (spl s) (spm s) _ ao s x _ _ w hg rfl rfl e1 e2 e3 h1 h2' h3' (by simp [h4])
        · have h4' : ((n : Int) == 0) = false := by simp [h4]
          by_cases h5 : (320 - n : Int) < spl s + x
          · rw [decide_eq_true (show Wi s x n from .inr (.inr (.inr h5)))]
            exact wr_d g n c (spl s) (spm s) _ ao s x _ _ w hg rfl rfl e1 e2 e3 h1 h2' h3' h4' (decide_eq_true h5)
          · rw [decide_eq_false (show ¬ Wi s x n from fun h => by rcases h with h | h | h | h; exact h1 h; exact h2 h; exact h4 h.2; exact h5 h)]
            exact wr_e g n c (spl s) (spm s) _ ao s x _ _ w hg rfl rfl e1 e2 e3 h1 h2' h3' h4' (decide_eq_false h5)
      · have h3' : (s == 16) = false := by simp [h3]
        by_cases h5 : (320 - n : Int) < spl s + x
        · rw [decide_eq_true (show Wi s x n from .inr (.inr (.inr h5)))]
          exact wr_f g n c (spl s) (spm s) _ ao s x _ _ w hg rfl rfl e1 e2 e3 h1 h2' h3' (decide_eq_true h5)
        · rw [decide_eq_false (show ¬ Wi s x n from fun h => by rcases h with h | h | h | h; exact h1 h; exact h2 h; exact h3 h.1; exact h5 h)]
          exact wr_g g n c (spl s) (spm s) _ ao s x _ _ w hg rfl rfl e1 e2 e3 h1 h2' h3' (decide_eq_false h5)
end Go.Proofs.YtnnkegpnjedneaaDoor.Z


/-
  Contract of Unpack.
-/
namespace Go.Proofs.YtnnkegpnjedneaaDoor.Z
open Go.RowKit
set_option maxRecDepth 100000
theorem cells_1 (w : World) (e : TypeId) (u : Value) : CellsAt (w.alloc (.cells #[u] e)) (.slice (some ⟨w.heap.size, 0, none⟩) 1 1) 1 [u] := by
  refine .inr ⟨_, 1, rfl, fun j x hx => ?_⟩
  rw [Addr.add_lit, Nat.zero_add, (Blk.made w e _).cell]
  have : j < 1 := (List.getElem?_eq_some_iff.1 hx).1
  obtain rfl : j = 0 := by omega
  simpa using hx

/-- The lengths so far, in a box. -/
structure Un (w : World) (cx : Nat) (ts : List Int) (ao : Option Addr) (c : Nat) (wr : World) : Prop where
  box : Blk wr cx 29 #[.slice ao ts.length c]
  below : Below w.heap.size w wr
  own : wr.ownsRow (cx + 1) 3 1 (.slice ao ts.length c) ts.length (iv ts)
  lo : w.heap.size ≤ cx
  hi : cx + 1 ≤ wr.heap.size
theorem Un.cell {w wr : World} {cx c : Nat} {ts : List Int} {ao : Option Addr} (h : Un w cx ts ao c wr) : wr.cell? ⟨cx, 0, none⟩ = some (.slice ao ts.length c) := h.box.cell 0
theorem Un.grow {w wr w' : World} {cx c : Nat} {ts : List Int} {ao : Option Addr} (h : Un w cx ts ao c wr) (hb : Below wr.heap.size wr w') : Un w cx ts ao c w' :=
  ⟨h.box.below hb, h.below.trans (hb.mono h.below.size), ownsRow_below h.own hb, h.lo, Nat.le_trans h.hi hb.size⟩
theorem Un.is {w wr : World} {cx c : Nat} {ts : List Int} {ao : Option Addr} (h : Un w cx ts ao c wr) : IS wr ao ts := own_is h.own rfl
theorem Un.alloc {w wr : World} {cx c : Nat} {ts : List Int} {ao : Option Addr} (h : Un w cx ts ao c wr) (o : Obj) : Un w cx ts ao c (wr.alloc o) := h.grow ((Below.refl _ _).alloc (Nat.le_refl _) _)
/-- Behind an append, before the store: the box still holds the old row. -/
theorem Un.mid {w wr w3 : World} {cx c n : Nat} {ts : List Int} {xs : List Value} {ao : Option Addr} {v : Value} {o : Obj} (h : Un w cx ts ao c wr) (hA : Apg (wr.alloc o) (cx + 1) 3 1 (.slice ao ts.length c) n xs v w3) :
    Blk w3 cx 29 #[.slice ao ts.length c] ∧ Below w.heap.size w w3 ∧ cx + 1 ≤ w3.heap.size := by
  have h1 := (h.alloc o)
  have hBe := hA.below h1.own h1.hi
  exact ⟨h1.box.low hBe (Nat.lt_succ_self _), h1.below.trans (hBe.mono (Nat.le_succ_of_le h1.lo)), Nat.le_trans h1.hi hBe.size⟩
theorem Un.put {w wr w3 : World} {cx c : Nat} {ts : List Int} {ao ao2 : Option Addr} {c2 : Nat} {x : Int} {o : Obj} (h : Un w cx ts ao c wr)
    (hA : Apg (wr.alloc o) (cx + 1) 3 1 (.slice ao ts.length c) (ts.length + 1) (iv ts ++ [.int .i64 x]) (.slice ao2 (ts.length + 1 : Nat) c2) w3) : Un w cx (ts ++ [x]) ao2 c2 (w3.setCell ⟨cx, 0, none⟩ (.slice ao2 (ts.length + 1 : Nat) c2)) := by
  have e : iv ts ++ [.int .i64 x] = iv (ts ++ [x]) := by simp [iv]
  rw [e] at hA
  obtain ⟨h1, h2, h3⟩ := h.mid hA
  have hl : (ts ++ [x]).length = ts.length + 1 := by simp
  refine ⟨?_, ?_, ?_, h.lo, by simpa using h3⟩
  · rw [hl]; exact h1.setCell 0 _
  · exact h2.setCell h.lo _
  · rw [hl]
    refine ownsRow_touch hA.own ((Touch.refl (fun k => k = cx) w3).setCell ⟨cx, 0, none⟩ _ (.inl rfl)) fun k hk e => ?_
    have := (hA.own.lt k hk).1
    omega

theorem un_step {r : List (Int × Int)} {k : Nat} (hk : k < r.length) (ts : List Int) : un (r.drop k) ts = if Wi (itm r k).1 (itm r k).2 ts.length then none else un (r.drop (k + 1)) (ts ++ List.replicate ((spl (itm r k).1 : Int) + (itm r k).2).toNat (tv (itm r k).1 ts)) := by
  have e : r.drop k = itm r k :: r.drop (k + 1) := by
    rw [List.drop_eq_getElem_cons hk]
    simp [itm, List.getD, hk]
  rw [e]
  rfl
theorem un_end {r : List (Int × Int)} {ts : List Int} : un (r.drop r.length) ts = some ts := by
  rw [List.drop_length, un]

/-- What Unpack comes to. -/
def Unp (A : Option (List Int)) (w : World) (e : Ending) (w' : World) : Prop := Below w.heap.size w w' ∧
  (A = none → e = .returned (.tuple #[.slice none 0 0, .bool false])) ∧ ∀ ts, A = some ts → ∃ ao c, e = .returned (.tuple #[.slice ao ts.length c, .bool true]) ∧ IS w' ao ts

def Unq (A : Option (List Int)) (w : World) (e : Ending) (w' : World) : Prop := Below w.heap.size w w' ∧
  (A = none → e = .returned (.tuple #[.slice none 0 0, .bool false])) ∧ ∀ ts, A = some ts → ∃ ao c, e = .returned (.tuple #[.slice ao ts.length c, .bool true]) ∧ IS w' ao ts ∧ ts.length ≤ c
theorem own_cap {w : World} {base e size n c : Nat} {ao : Option Addr} {xs : List Value} (h : w.ownsRow base e size (.slice ao n c) n xs) : n ≤ c := by
  rcases h.2 with ⟨e1, h0⟩ | ⟨g, cap, cur, e1, _, _, hnc, _⟩
  · omega
  · simp only [Value.slice.injEq] at e1
    omega

set_option maxHeartbeats 4000000 in
theorem unpack_any (ao : Option Addr) (c : Nat) (r : List (Int × Int)) (w : World) (h : TS w ao r) (hl : r.length ≤ 1000) :
    Calls Tryd.prog 94 #[.slice ao r.length c] w (Unq (un r []) w) := by
  have HI : Hid (∀ W, Below w.heap.size w W → TS W ao r) := Lib.hid fun W hW => h.on hW
  clear h
  obtain ⟨A, hA⟩ : ∃ A, A = un r [] := ⟨_, rfl⟩
  rw [← hA]
  have HA0 := Lib.hid hA
  clear hA
  go_enter Tryd.func94, Tryd.ntmps94
  go_wp2
  obtain ⟨cx, hcx⟩ : ∃ cx, cx = w.heap.size := ⟨_, rfl⟩
  have H0 : Hid (Un w cx [] none 0 (w.alloc (.cells #[.slice none 0 0] 29))) := Lib.hid ⟨by rw [hcx]; exact Blk.made _ _ _, (Below.refl _ w).alloc (Nat.le_refl _) _, World.ownsRow_nil _ _ _ _, by omega, by rw [hcx]; simp⟩
  rw [← hcx]
  clear hcx
  go_loopw [14] (fun iv' wr => ∃ (k : Nat) (ts : List Int) (bo : Option Addr) (cu : Nat), k ≤ r.length ∧ iv' = .int .i64 k ∧ ts.length ≤ 320 ∧ un (r.drop k) ts = A ∧ Un w cx ts bo cu wr) (fun iv' _ => r.length - (intOf iv').toNat)
  case atStart => exact ⟨0, [], none, 0, Nat.zero_le _, rfl, by simp, HA0.out.symm, H0.out⟩
  case round =>
    obtain ⟨k, ts, bo, cu, hk, rfl, htl, hun, hU⟩ := hrel
    have HUN := Lib.hid hun
    have HU := Lib.hid hU
    clear hun hU H0
    by_cases hlt : k < r.length
    · have hkk : (k : Int) < r.length := by omega
      obtain ⟨b1, o1, rfl, q1, q2⟩ := (HI.out _ HU.out.below).at hlt
      obtain ⟨s, hs⟩ : ∃ s, s = (itm r k).1 := ⟨_, rfl⟩
      obtain ⟨x, hx⟩ : ∃ x, x = (itm r k).2 := ⟨_, rfl⟩
      have HSX := Lib.hid (And.intro hs hx)
      rw [← hs] at q1
      rw [← hx] at q2
      clear hs hx
      by_cases hw : Wi s x ts.length
      · have HW := Lib.hid (decide_eq_true hw)
        clear hw
        go_wp2_with (go_at_call 97; (refine (wrong_any cx ts.length cu bo s x _ (HU.out.alloc _).cell htl).mono ?_); rintro e w1 ⟨rfl, hb1⟩; have HU1 := Lib.hid ((HU.out.alloc _).grow hb1); rw [HW.out]; clear hb1)
        go_ret2
        refine ⟨HU1.out.below, fun _ => rfl, fun ts' h => ?_⟩
        exfalso
        have h1 := HUN.out
        have h2 := HSX.out
        rw [h, un_step hlt, ← h2.1, ← h2.2, if_pos (of_decide_eq_true HW.out)] at h1
        cases h1
      · have HW := Lib.hid (decide_eq_false hw)
        have HWN := Lib.hid hw
        have hsl := sp_lim s
        obtain ⟨l, hl⟩ : ∃ l, l = spl s := ⟨_, rfl⟩
        obtain ⟨m, hm⟩ : ∃ m, m = spm s := ⟨_, rfl⟩
        have HSP := Lib.hid (And.intro hl.symm hm.symm)
        obtain ⟨n, hn⟩ : ∃ n, n = (l + x).toNat := ⟨_, rfl⟩
        have hnb : ts.length + n ≤ 320 := by unfold Wi Bad at hw; omega
        have e1 : IntKind.i64.wrap ((l : Int) + x) = n := by unfold Wi Bad at hw; rw [IntKind.wrap_i64]; omega
        have HN := Lib.hid hn
        obtain ⟨t, ht⟩ : ∃ t, t = tv s ts := ⟨_, rfl⟩
        have HTV := Lib.hid ht.symm
        clear ht
        clear hsl hl hm hn hw
        go_wp2_with (first
          | (go_at_call 97; (refine (wrong_any cx ts.length cu bo s x _ (HU.out.alloc _).cell htl).mono ?_); rintro e w1 ⟨rfl, hb1⟩; have HU1 := Lib.hid ((HU.out.alloc _).grow hb1); have HX1 := Lib.hid ((Blk.made wr 147 #[.int .i64 s, .int .i64 x]).below hb1); rw [HW.out]; clear hb1; have p1 := HX1.out.cell 0; have p2 := HX1.out.cell 1; have p3 := HU1.out.cell)
          | (go_at_call 98; refine (span_any _ _).mono ?_; rintro e w5 ⟨rfl, rfl⟩; rw [HSP.out.1, HSP.out.2])
          | (go_at_call 100; refine (told_any bo cu s ts _ HU1.out.is (fun e h0 => HWN.out (.inr (.inr (.inl ⟨e, by rw [h0]; rfl⟩)))) (by omega)).mono ?_; rintro e w6 ⟨rfl, rfl⟩; rw [HTV.out]))
        clear p1 p2 p3 e1
        have H1 : Hid (Un w cx (ts ++ List.replicate 0 t) bo cu w6) := Lib.hid (by simpa using HU1.out)
        go_loopw [35] (fun jv wr2 => ∃ (j : Nat) (bo2 : Option Addr) (cu2 : Nat), jv = .int .i64 j ∧ j ≤ n ∧ Un w cx (ts ++ List.replicate j t) bo2 cu2 wr2) (fun jv _ => n - (intOf jv).toNat)
        case atStart => exact ⟨0, bo, cu, rfl, Nat.zero_le _, H1.out⟩
        case round =>
          obtain ⟨j, bo2, cu2, rfl, hj, hU2⟩ := hrel
          have HU2 := Lib.hid hU2
          clear hU2 H1 HU1 HX1 HU q1 q2
          obtain ⟨ts2, ht2⟩ : ∃ ts2, ts2 = ts ++ List.replicate j t := ⟨_, rfl⟩
          have HT2 := Lib.hid ht2
          have ht2l : ts2.length ≤ 320 := by rw [ht2]; simp; omega
          rw [← ht2] at HU2
          clear ht2
          by_cases hlj : j < n
          · have hlj' : (j : Int) < n := by omega
            have p1 := HU2.out.cell
            go_wp2_with (refine wpList_append_g at22 rfl (.tmp 37) (.tmp 39) rfl (cx + 1) (.slice bo2 ts2.length cu2) (.slice (some ⟨wr.heap.size, 0, none⟩) 1 1) ts2.length 1 (iv ts2) [.int .i64 t] rfl rfl (World.ownsRow.alloc (w := wr) HU2.out.own _) (cells_1 wr 3 _) rfl (by simp [Value.oneCell']) (by have := HU2.out.hi; simp; omega) (by omega) (by omega) ?_; intro ao2 cc2 w3 hA; have HA := Lib.hid hA; clear hA; have p2 := (HU2.out.mid HA.out).1.cell 0; have p3 := (HU2.out.mid HA.out).1.free 0)
            go_roundw
            case rel =>
              refine ⟨j + 1, ao2, cc2, by go_num, by omega, ?_⟩
              have h1 := HU2.out.put HA.out
              rw [HT2.out, List.append_assoc, ← List.replicate_succ'] at h1
              rw [HT2.out] 
              exact h1
            case measure => simp [intOf]; omega
          · have hj' : j = n := by omega
            have HJ := Lib.hid hj'
            subst hj'
            have hjj : decide ((j : Int) < j) = false := decide_eq_false (by omega)
            go_wp2
            go_roundw
            case rel =>
              refine ⟨k + 1, ts2, bo2, cu2, by omega, by go_num, ht2l, ?_, HU2.out⟩
              have h1 := HUN.out
              have h2 := HSX.out
              rw [un_step hlt, ← h2.1, ← h2.2, if_neg HWN.out, HTV.out, HSP.out.1, ← HN.out, ← HT2.out] at h1
              exact h1
            case measure => simp [intOf]; omega
    · have hk' : k = r.length := by omega
      subst hk'
      have q1 := HU.out.cell
      go_wp2
      go_ret2
      refine ⟨HU.out.below, fun h => ?_, fun ts' h => ?_⟩
      · have h1 := HUN.out
        rw [h, un_end] at h1
        cases h1
      · have h1 := HUN.out
        rw [h, un_end] at h1
        cases h1
        exact ⟨bo, cu, rfl, HU.out.is, own_cap HU.out.own⟩
end Go.Proofs.YtnnkegpnjedneaaDoor.Z

