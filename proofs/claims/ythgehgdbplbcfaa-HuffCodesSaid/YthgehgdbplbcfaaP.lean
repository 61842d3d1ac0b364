/-
  Contracts of Room and New.
-/
import Derived.Test.YthgehgdbplbcfaaO
namespace Go.Proofs.Ythgehgdbplbcfaa
open Go.RowKit

set_option maxHeartbeats 800000 in
theorem Room_yes (ao : Option Addr) (c : Nat) (zs : List Int) (w : World) (h : IS w ao zs) (hv : Vd zs) :
    Calls Try.prog 10 #[.slice ao zs.length c] w fun e w' => e = .returned (.tuple #[.int .i64 (room (nat zs) : Nat), .bool true]) ∧ Below w.heap.size w w' := by
  have HI := Lib.hid h
  have HV := Lib.hid hv
  have HL : Hid ((nat zs).length ≤ 320) := Lib.hid (by rw [nat_len]; exact hv.len)
  clear h hv
  go_enter Try.func10, Try.ntmps10
  go_wp2_with (first
    | (go_at_call 29; (refine (count_yes ao c zs _ HI.out HV.out).mono ?_); rintro e w1 ⟨rfl, hb1⟩; have HB1 := Lib.hid hb1; clear hb1)
    | (refine wpList_alloc_z rfl 61 rfl _ z61 ?_; intro W2 hb2 ht2 hs2; have HS2 := Lib.hid hs2; have HT2 := Lib.hid (HB1.out.trans ((ht2.below (Nat.le_refl _) (fun _ h => h.elim)).mono HB1.out.size)); clear hs2)
    | (refine wpList_store_row rfl 61 (.tmp 4) (.tmp 9) rfl rfl w1.heap.size rfl _ rfl 61 _ hb2 i61 (by simp only [va_size]) (ia_one 16 _) ?_; intro W3 hb3 ht3 hs3; have HS3 := Lib.hid hs3; have HT3 := Lib.hid (HT2.out.trans (ht3.below (B := w.heap.size) HT2.out.size (fun k hk => by have := HB1.out.size; omega))); clear hs3)
    | (refine wpList_load_row rfl 61 (.tmp 4) rfl w1.heap.size rfl 61 _ hb3 16 3 Try.underlying61 i61 ?_)
    | (go_at_call 30; (refine (room_any (nat zs) HL.out _).mono ?_); rintro e w4 ⟨rfl, hb4⟩; have HT4 := Lib.hid (HT3.out.trans (hb4.mono HT3.out.size)); clear hb4))
  go_ret2
  exact ⟨rfl, HT4.out⟩

set_option maxHeartbeats 800000 in
theorem Room_no (ao : Option Addr) (c : Nat) (zs : List Int) (w : World) (h : IS w ao zs) (hv : ¬ Vd zs) :
    Calls Try.prog 10 #[.slice ao zs.length c] w fun e w' => e = .returned (.tuple #[.int .i64 0, .bool false]) ∧ Below w.heap.size w w' := by
  have HI := Lib.hid h
  have HV := Lib.hid hv
  clear h hv
  go_enter Try.func10, Try.ntmps10
  go_wp2_with (first
    | (go_at_call 29; (refine (count_no ao c zs _ HI.out HV.out).mono ?_); rintro e w1 ⟨rfl, hb1⟩; have HB1 := Lib.hid hb1; clear hb1)
    | (refine wpList_alloc_z rfl 61 rfl _ z61 ?_; intro W2 hb2 ht2 hs2; have HS2 := Lib.hid hs2; have HT2 := Lib.hid (HB1.out.trans ((ht2.below (Nat.le_refl _) (fun _ h => h.elim)).mono HB1.out.size)); clear hs2)
    | (refine wpList_store_row rfl 61 (.tmp 4) (.tmp 9) rfl rfl w1.heap.size rfl _ rfl 61 _ hb2 i61 (by simp only [va_size]) (ia_one 16 _) ?_; intro W3 hb3 ht3 hs3; have HS3 := Lib.hid hs3; have HT3 := Lib.hid (HT2.out.trans (ht3.below (B := w.heap.size) HT2.out.size (fun k hk => by have := HB1.out.size; omega))); clear hs3))
  go_ret2
  exact ⟨rfl, HT3.out⟩

set_option maxHeartbeats 800000 in
theorem New_range (ao : Option Addr) (c : Nat) (zs : List Int) (w : World) (h : IS w ao zs) (hv : ¬ Vd zs) :
    Calls Try.prog 12 #[.slice ao zs.length c] w fun e w' => e = .returned (.tuple #[.pointer none, .int .i64 11]) ∧ Below w.heap.size w w' := by
  have HI := Lib.hid h
  have HV := Lib.hid hv
  clear h hv
  go_enter Try.func12, Try.ntmps12
  go_wp2_with (first
    | (go_at_call 29; (refine (count_no ao c zs _ HI.out HV.out).mono ?_); rintro e w1 ⟨rfl, hb1⟩; have HB1 := Lib.hid hb1; clear hb1)
    | (refine wpList_alloc_z rfl 61 rfl _ z61 ?_; intro W2 hb2 ht2 hs2; have HS2 := Lib.hid hs2; have HT2 := Lib.hid (HB1.out.trans ((ht2.below (Nat.le_refl _) (fun _ h => h.elim)).mono HB1.out.size)); clear hs2)
    | (refine wpList_store_row rfl 61 (.tmp 4) (.tmp 10) rfl rfl w1.heap.size rfl _ rfl 61 _ hb2 i61 (by simp only [va_size]) (ia_one 16 _) ?_; intro W3 hb3 ht3 hs3; have HS3 := Lib.hid hs3; have HT3 := Lib.hid (HT2.out.trans (ht3.below (B := w.heap.size) HT2.out.size (fun k hk => by have := HB1.out.size; omega))); clear hs3))
  go_ret2
  exact ⟨rfl, HT3.out⟩

set_option maxHeartbeats 800000 in
theorem New_form (ao : Option Addr) (c : Nat) (zs : List Int) (w : World) (h : IS w ao zs) (hv : Vd zs) (hm : 32768 < room (nat zs)) :
    Calls Try.prog 12 #[.slice ao zs.length c] w fun e w' => e = .returned (.tuple #[.pointer none, .int .i64 10]) ∧ Below w.heap.size w w' := by
  have HI := Lib.hid h
  have HV := Lib.hid hv
  have HL : Hid ((nat zs).length ≤ 320) := Lib.hid (by rw [nat_len]; exact hv.len)
  have hm' : (32768 : Int) < (room (nat zs) : Nat) := by omega
  clear h hv
  go_enter Try.func12, Try.ntmps12
  go_wp2_with (first
    | (go_at_call 29; (refine (count_yes ao c zs _ HI.out HV.out).mono ?_); rintro e w1 ⟨rfl, hb1⟩; have HB1 := Lib.hid hb1; clear hb1)
    | (refine wpList_alloc_z rfl 61 rfl _ z61 ?_; intro W2 hb2 ht2 hs2; have HS2 := Lib.hid hs2; have HT2 := Lib.hid (HB1.out.trans ((ht2.below (Nat.le_refl _) (fun _ h => h.elim)).mono HB1.out.size)); clear hs2)
    | (refine wpList_store_row rfl 61 (.tmp 4) (.tmp 10) rfl rfl w1.heap.size rfl _ rfl 61 _ hb2 i61 (by simp only [va_size]) (ia_one 16 _) ?_; intro W3 hb3 ht3 hs3; have HS3 := Lib.hid hs3; have HT3 := Lib.hid (HT2.out.trans (ht3.below (B := w.heap.size) HT2.out.size (fun k hk => by have := HB1.out.size; omega))); clear hs3)
    | (refine wpList_load_row rfl 61 (.tmp 4) rfl w1.heap.size rfl 61 _ hb3 16 3 Try.underlying61 i61 ?_)
    | (go_at_call 30; (refine (room_any (nat zs) HL.out _).mono ?_); rintro e w4 ⟨rfl, hb4⟩; have HT4 := Lib.hid (HT3.out.trans (hb4.mono HT3.out.size)); clear hb4))
  go_ret2
  exact ⟨rfl, HT4.out⟩

theorem b68 (f g : Nat → Nat) : ∀ W, (Instr.build 68 #[(3, .agg (il g).toArray), (2, .agg (il f).toArray)]).run Try.prog W = .ok (.agg (cc (.slice none 0 0) (.slice none 0 0) f g)) W := fun W => by
  kernel_rfl
theorem run_build2 {a : Act} {o : Oper} (t : TypeId) (i j : Nat) (x y : Operand) (vx vy V : Value) (ho : o.op = .build t #[(i, x), (j, y)]) (hx : a.eval x = vx) (hy : a.eval y = vy)
    (hz : ∀ W, (Instr.build t #[(i, vx), (j, vy)]).run Try.prog W = .ok V W) (W : World) : (execOp a.eval o).run Try.prog W = .ok (.value V) W := by
  unfold execOp
  simp only [ho, hx, hy, List.map_toArray, List.map_cons, List.map_nil, Sem.run_bind, hz, Result.andThen_ok, Sem.run_pure]
theorem step_box_row {ops : Array Oper} {o : Oper} {a : Act} {w : World} {K : Act → World → Prop} {Q : Exit → Act → World → Prop} {E : Prop}
    (hg : o.guard = none) (t : TypeId) (x : Operand) (ho : o.op = .box t x) (z : Array Value) (hx : a.eval x = .agg z)
    (h : ∀ W, Blk W w.heap.size t z → Touch (fun _ => False) w W → W.heap.size = w.heap.size + 1 → K (a.put o.dst (.pointer (some ⟨w.heap.size, 0, none⟩))) W) :
    if Region.wanted o (yielded ops a.tmps) = true then Oper.wp Try.prog o a w K Q else E := by
  have hw : Region.wanted o (yielded ops a.tmps) = true := by simp [Region.wanted, hg]
  rw [if_pos hw]
  have hr : (Instr.box t (.agg z)).run Try.prog w = .ok (.pointer (some ⟨w.heap.size, 0, none⟩)) (w.alloc (.cells z t)) := by
    simp [Instr.box, newVar, newRow, Value.cells, go_sem]
  unfold Oper.wp execOp
  simp only [ho, hx, Sem.run_bind, Sem.run_pure, hr, Result.andThen_ok]
  exact h _ (Blk.made w t z) ((Touch.refl _ w).alloc _) (by simp)
theorem firsts_il (ls : List Nat) (H : Ok ls) (w : World) :
    Calls Try.prog 31 #[.agg (il (cn ls)).toArray] w fun e w' => e = .returned (.agg (il (fc ls)).toArray) ∧ Below w.heap.size w w' := firsts_any ls H w
theorem range_below {w w' : World} {b o : Nat} {cs : List Value} (h : w.rangeAt b o cs) (hb : Below w.heap.size w w') : w'.rangeAt b o cs := fun j v hv => by
  have := h j v hv
  exact (hb.cell (World.block_lt_of_cell? w _ this)).trans this

theorem IS.lt {w : World} {ao : Option Addr} {zs : List Int} (h : IS w ao zs) : ∀ b off, ao = some ⟨b, off, none⟩ → zs ≠ [] → b < w.heap.size := by
  intro b off e hx
  rcases h with h0 | ⟨b', off', rfl, hc⟩
  · exact absurd h0 hx
  · have e := Option.some.inj e
    simp only [Addr.mk.injEq] at e
    rw [← e.1]
    exact World.block_lt_of_cell? w _ (hc 0 (by cases zs with | nil => exact absurd rfl hx | cons => simp))

def NewTo (w : World) (ls : List Nat) (e : Ending) (w' : World) : Prop := ∃ p, e = .returned (.tuple #[.pointer (some ⟨p, 0, none⟩), .int .i64 0]) ∧ CodeAt w' p ls ∧ Below w.heap.size w w'

set_option maxHeartbeats 1600000 in
theorem New_ok (ao : Option Addr) (c : Nat) (zs : List Int) (w : World) (h : IS w ao zs) (hv : Vd zs) (hm : room (nat zs) ≤ 32768) :
    Calls Try.prog 12 #[.slice ao zs.length c] w (NewTo w (nat zs)) := by
  have HI := Lib.hid h
  have HV := Lib.hid hv
  have HO : Hid (Ok (nat zs)) := Lib.hid ⟨by rw [nat_len]; exact hv.len, fun x hx => by
    obtain ⟨z, hz, rfl⟩ := List.mem_map.1 hx
    have := hv.all z hz
    omega, hm⟩
  have hm' : decide ((32768 : Int) < (room (nat zs) : Nat)) = false := by simp; omega
  clear h hv
  go_enter Try.func12, Try.ntmps12
  go_upto_region 6 with (first
    | (go_at_call 29; (refine (count_yes ao c zs _ HI.out HV.out).mono ?_); rintro e w1 ⟨rfl, hb1⟩; have HB1 := Lib.hid hb1; clear hb1)
    | (refine wpList_alloc_z rfl 61 rfl _ z61 ?_; intro W2 hb2 ht2 hs2; have HS2 := Lib.hid hs2; have HT2 := Lib.hid (HB1.out.trans ((ht2.below (Nat.le_refl _) (fun _ h => h.elim)).mono HB1.out.size)); clear hs2)
    | (refine wpList_store_row rfl 61 (.tmp 4) (.tmp 10) rfl rfl w1.heap.size rfl _ rfl 61 _ hb2 i61 (by simp only [va_size]) (ia_one 16 _) ?_; intro W3 hb3 ht3 hs3; have HS3 := Lib.hid hs3; have HT3 := Lib.hid (HT2.out.trans (ht3.below (B := w.heap.size) HT2.out.size (fun k hk => by have := HB1.out.size; omega))); clear hs3)
    | (refine wpList_load_row rfl 61 (.tmp 4) rfl w1.heap.size rfl 61 _ hb3 16 3 Try.underlying61 i61 ?_)
    | (go_at_call 30; (refine (room_any (nat zs) HO.out.len _).mono ?_); rintro e w4 ⟨rfl, hb4⟩; have HT4 := Lib.hid (HT3.out.trans (hb4.mono HT3.out.size)); have HB4 := Lib.hid (hb3.below hb4); clear hb4))
  obtain ⟨q, hq⟩ : ∃ q, q = w1.heap.size := ⟨_, rfl⟩
  rw [← hq]
  rw [← hq] at HB4
  clear hq HB1 hb2 ht2 HS2 HT2 hb3 ht3 HS3 HT3
  have hr := ia_r HB4.out
  refine wp_region_held_drew (S := fun w' => w'.rangeAt q 0 (il (cn (nat zs)))) (by kernel_rfl) hr (fun hHeld => ?_)
  refine wpAnyH_take (i := 0) (oi := { dst := some 17, op := Op.load 61 (Operand.tmp 4), type := 61, pos := "huff.go:54", after := #[], guard := none }) rfl (by kernel_rfl) (by kernel_rfl) (by kernel_rfl) (fun _ _ _ h => h) (yieldsIf_load_mid rfl 61 _ rfl q 0 rfl (il (cn (nat zs))) _ (fun _ h => h) Try.underlying61 rfl (il_i _)) hHeld ?_
  simp only [Act.put, List.setIfInBounds_toArray, List.set_cons_zero, List.set_cons_succ]
  refine wpAnyH_take (i := 1) (oi := { dst := some 18, op := Op.load 61 (Operand.tmp 4), type := 61, pos := "huff.go:54", after := #[], guard := none }) rfl (by kernel_rfl) (by kernel_rfl) (by kernel_rfl) (fun _ _ _ h => h) (yieldsIf_load_mid rfl 61 _ rfl q 0 rfl (il (cn (nat zs))) _ (fun _ h => h) Try.underlying61 rfl (il_i _)) hHeld ?_
  simp only [Act.put, List.setIfInBounds_toArray, List.set_cons_zero, List.set_cons_succ]
  refine wpAnyH_ready (rs := [2]) (by kernel_rfl) (by simp) ?_
  refine AllReadyH.cons (o := { dst := some 19, op := Op.call { callee := Callee.value (Operand.func 31), args := #[Operand.tmp 18], argTypes := #[61] }, type := 61, pos := "huff.go:54", after := #[{ on := 1, ground := Ground.data }], guard := none }) rfl (fun K hK => ?_) AllReadyH.nil
  go_wp2_with (first | (go_at_call 31; (refine (firsts_il (nat zs) HO.out _).mono ?_); rintro e w5 ⟨rfl, hb5⟩; have HB5 := Lib.hid hb5; clear hb5))
  refine hK.out _ _ (range_below (w := w4.drew) hHeld HB5.out) (fun hHeld2 => ?_)
  clear hK K
  have HBD := Lib.hid (b68 (fc (nat zs)) (cn (nat zs)))
  refine wpAnyH_take (i := 3) (v := .agg (cc (.slice none 0 0) (.slice none 0 0) (fc (nat zs)) (cn (nat zs)))) (oi := { dst := some 20, op := Op.build 68 #[(3, Operand.tmp 17), (2, Operand.tmp 19)], type := 68, pos := "huff.go:54", after := #[{ on := 0, ground := Ground.data }, { on := 2, ground := Ground.data }], guard := none }) rfl (by kernel_rfl) (by kernel_rfl) (by kernel_rfl) (fun _ _ _ h => h) (Or.inl ⟨by rfl, fun W _ => run_build2 68 3 2 (.tmp 17) (.tmp 19) (.agg (il (cn (nat zs))).toArray) (.agg (il (fc (nat zs))).toArray) _ rfl rfl rfl HBD.out W⟩) hHeld2 ?_
  simp only [Act.put, List.setIfInBounds_toArray, List.set_cons_zero, List.set_cons_succ]
  refine wpAnyH_ready (rs := [4]) (by kernel_rfl) (by simp) ?_
  refine AllReadyH.cons (o := { dst := some 21, op := Op.box 68 (Operand.tmp 20), type := 27, pos := "huff.go:54", after := #[{ on := 3, ground := Ground.data }], guard := none }) rfl (fun K hK => ?_) AllReadyH.nil
  refine step_box_row rfl 68 (.tmp 20) rfl _ rfl ?_
  intro W6 hb6 ht6 hs6
  refine hK.out _ _ (range_below hHeld2 (ht6.below (Nat.le_refl _) (fun _ h => h.elim))) (fun hHeld3 => ?_)
  clear hK K
  simp only [Act.put, List.setIfInBounds_toArray, List.set_cons_zero, List.set_cons_succ]
  refine wpAnyH_take (i := 5) (v := .pointer (some ⟨w5.heap.size, 0, none⟩)) (oi := { dst := some 6, op := Op.assign (Operand.tmp 21), type := 27, pos := "huff.go:54", after := #[{ on := 4, ground := Ground.data }, { on := 2, ground := Ground.chain }, { on := 0, ground := Ground.phase }, { on := 1, ground := Ground.phase }, { on := 2, ground := Ground.phase }, { on := 3, ground := Ground.phase }, { on := 4, ground := Ground.phase }], guard := none }) rfl (by kernel_rfl) (by kernel_rfl) (by kernel_rfl) (fun _ _ _ h => h) (Or.inl ⟨by rfl, fun W _ => by go_simp⟩) hHeld3 ?_
  simp only [Act.put, List.setIfInBounds_toArray, List.set_cons_zero, List.set_cons_succ]
  refine wpAnyH_done (by kernel_rfl) ?_ _
  clear hHeld hHeld2 hHeld3 hr
  obtain ⟨pc, hpc⟩ : ∃ pc, pc = w5.heap.size := ⟨_, rfl⟩
  rw [← hpc]
  rw [← hpc] at hb6
  have hlo : w.heap.size ≤ pc := by
    have h1 := HT4.out.size
    have h2 : w4.heap.size ≤ w5.heap.size := HB5.out.size
    omega
  have HT6 : Hid (Below w.heap.size w W6) := Lib.hid ((below_drew HT4.out).trans ((HB5.out.trans ((ht6.below (Nat.le_refl _) (fun _ h => h.elim)).mono HB5.out.size)).mono HT4.out.size))
  have HB6 := Lib.hid hb6
  have HS6 := Lib.hid hs6
  clear hb6 ht6 hs6 hpc HBD HB5 HB4 HT4
  go_wp2_with (first | (go_at_call 32; (refine (give_any ao c zs (nat zs) _ pc (HI.out.below HT6.out) HO.out (nat_len zs) (fun k hk => (HV.out.ln hk).1) HB6.out (fun b off e hx hb => by have := HI.out.lt b off e hx; omega)).mono ?_); rintro e w7 ⟨rfl, hc7, ht7⟩; have HC7 := Lib.hid hc7; have HT7 := Lib.hid ht7; clear hc7 ht7))
  go_ret2
  exact ⟨pc, rfl, HC7.out, HT6.out.trans (HT7.out.below HT6.out.size (fun k hk => by omega))⟩
end Go.Proofs.Ythgehgdbplbcfaa
