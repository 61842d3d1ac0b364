/-
  Append onto a row of the call's own; the lengths of each kind, their room; integers copied and compared.
-/
import Derived.Test.YtccfbkbfmkdapaaA
namespace Go.Proofs.Ytccfbkbfmkdapaa
open Go.RowKit

theorem Touch.none_below {a b : World} (h : Touch (fun _ => False) a b) : Below a.heap.size a b := h.below (Nat.le_refl _) fun _ h => h.elim
theorem ownsRow_below {w w' : World} {base : Nat} {e : TypeId} {size : Nat} {v : Value} {n : Nat} {xs : List Value} (h : w.ownsRow base e size v n xs) (hb : Below w.heap.size w w') : w'.ownsRow base e size v n xs :=
  ownsRow_touch h (Touch.of_below (S := fun _ => False) hb) fun _ _ h => h
theorem own_none (w : World) (e size : Nat) : (w.alloc (.cells #[] e)).ownsRow w.heap.size e size (.slice (some ⟨w.heap.size, 0, none⟩) 0 0) 0 [] :=
  World.ownsRow_made w #[] 0 (Nat.le_refl _) (Nat.zero_le _) (by simp)

/-- Behind an append: the row is owned; only the old row may have been written; the new row is the old one or a new one. -/
structure Apg (w : World) (base e sz : Nat) (v : Value) (n : Nat) (xs : List Value) (v' : Value) (w' : World) : Prop where
  own : w'.ownsRow base e sz v' n xs
  touch : Touch (fun k => v.ownBlock = some k) w w'
  row : ∀ k, v'.ownBlock = some k → v.ownBlock = some k ∨ w.heap.size ≤ k

theorem Apg.trans {a b c : World} {base e sz n m : Nat} {v1 v2 v3 : Value} {xs ys : List Value} (h : Apg a base e sz v1 n xs v2 b) (k : Apg b base e sz v2 m ys v3 c) : Apg a base e sz v1 m ys v3 c := by
  refine ⟨k.own, h.touch.trans' k.touch fun i hi hlt => ?_, fun i hi => ?_⟩
  · rcases h.row i hi with h1 | h1
    · exact h1
    · omega
  · rcases k.row i hi with h1 | h1
    · exact h.row i h1
    · right; have := h.touch.size; omega
theorem Apg.alloc {a b : World} {base e sz n : Nat} {v1 v2 : Value} {xs : List Value} {o : Obj} (k : Apg (a.alloc o) base e sz v1 n xs v2 b) : Apg a base e sz v1 n xs v2 b :=
  ⟨k.own, ((Touch.refl _ a).alloc o).trans k.touch, fun i hi => by
    rcases k.row i hi with h | h
    · exact .inl h
    · right; simp at h; omega⟩
theorem Apg.below {a b : World} {base e sz n : Nat} {v1 v2 : Value} {xs ys : List Value} {m : Nat} (k : Apg a base e sz v1 n xs v2 b) (h : a.ownsRow base e sz v1 m ys) (hb : base ≤ a.heap.size) : Below base a b :=
  k.touch.below hb fun i hi => (h.lt i hi).1

/-- A slice value whose cells are these, m elements. -/
def CellsAt (w : World) (sv : Value) (m : Nat) (ys : List Value) : Prop :=
  (sv = .slice none 0 0 ∧ m = 0 ∧ ys = []) ∨ ∃ ad c, sv = .slice (some ad) m c ∧ ∀ j u, ys[j]? = some u → w.cell? (ad.add j) = some u

/-- What append wants to know of a slice type. -/
structure AT (t e : Nat) (z : Value) (size bytes : Nat) : Prop where
  hu : Try.prog.underlying t = some (.slice e)
  info : (Try.prog.info? e).map (fun i => (i.zero, i.size, i.bytes)) = some (some z, size, bytes)
  zs : z.cells.size = size
  pos : 0 < size

theorem run_append_g {t e : Nat} {z : Value} {size bytes : Nat} (T : AT t e z size bytes) (w : World) {base : Nat} {v sv : Value} {n m : Nat} {xs ys : List Value} (ty : TypeId) (hown : w.ownsRow base e size v n xs) (hs : CellsAt w sv m ys)
    (hyl : ys.length = m * size) (h1 : ∀ u ∈ ys, u.oneCell' = true) (hbase : base ≤ w.heap.size) (hl : n + m ≤ 140737488355328) (hby : (n + m) * bytes ≤ 140737488355328) :
    ∃ v' w', (Builtin.append_ #[t, t] ty #[v, sv]).run Try.prog w = .ok v' w' ∧ Apg w base e size v (n + m) (xs ++ ys) v' w' := by
  obtain ⟨i0, hi, hz0, hz1, hz2⟩ := info_parts T.info
  rcases hs with ⟨rfl, rfl, rfl⟩ | ⟨ad, c, rfl, hcell⟩
  · refine ⟨v, w, run_append_owned_none w base t ty e i0 size T.hu hi v n xs hown, ?_, Touch.refl _ _, fun k hk => .inl hk⟩
    simpa using hown
  · rcases hown.2 with ⟨rfl, hn0⟩ | ⟨g, cap, cur, rfl, hbg, hh, hnc, hcm, hcs, htake⟩
    · subst hn0
      have hx : xs = [] := List.eq_nil_of_length_eq_zero (by rw [hown.1, Nat.zero_mul])
      subst hx
      obtain ⟨v', w', hr, ho, hg, _⟩ := run_append_own (P := Try.prog) w w.heap.size t ty e i0 z size bytes T.hu hi hz0 hz1 hz2 T.zs T.pos (.slice none 0 0) 0 [] (World.ownsRow_nil _ _ _ _) ad m c ys hyl hcell h1 (by unfold maxLen; omega) hby (Nat.le_refl _)
      exact ⟨v', w', hr, own_base ho hbase, (Touch.refl _ w).grown hg fun k hk => by simp [Value.ownBlock] at hk, fun k hk => .inr (ho.lt k hk).1⟩
    · by_cases hroom : n + m ≤ cap
      · obtain ⟨w', hr, ho, hg⟩ := run_append_fits (P := Try.prog) w base t ty e i0 size T.hu hi hz1 g n cap xs hown ad m c ys hyl hcell h1 hroom
        exact ⟨_, w', hr, ho, (Touch.refl _ w).grown hg fun k hk => .inl (by cases hk; simp [Value.ownBlock]), fun k hk => .inl (by simpa [Value.ownBlock] using hk)⟩
      · obtain ⟨v', w', hr, ho, hg⟩ := run_append_arg_grows (P := Try.prog) w t ty e i0 z size bytes T.hu hi hz0 hz1 hz2 T.zs T.pos ⟨g, 0, none⟩ n cap xs hown.1 (hown.cells (by simp [Value.ownBlock])) ad m c ys hyl hcell (by omega) (by unfold maxLen; omega) hby
        exact ⟨v', w', hr, own_base ho hbase, (Touch.refl _ w).grown hg (fun k hk => by cases hk), fun k hk => .inr (ho.lt k hk).1⟩

theorem wpList_append_g {t e : Nat} {z : Value} {size bytes : Nat} (T : AT t e z size bytes) {w : World} {ops : Array Oper} {rest : List Oper} {o : Oper} {a : Act} {Q : Exit → Act → World → Prop} (hgd : o.guard = none) (s x : Operand)
    (ho : o.op = .call { callee := .builtin .append, args := #[s, x], argTypes := #[t, t] })
    (base : Nat) (v sv : Value) (n m : Nat) (xs ys : List Value) (hs : a.eval s = v) (hx : a.eval x = sv) (hown : w.ownsRow base e size v n xs) (hsrc : CellsAt w sv m ys)
    (hyl : ys.length = m * size) (h1 : ∀ u ∈ ys, u.oneCell' = true) (hbase : base ≤ w.heap.size) (hl : n + m ≤ 140737488355328) (hby : (n + m) * bytes ≤ 140737488355328)
    (h : ∀ ao c w', Apg w base e size v (n + m) (xs ++ ys) (.slice ao (n + m) c) w' → wpList Try.prog ops Q rest (a.put o.dst (.slice ao (n + m) c)) w') : wpList Try.prog ops Q (o :: rest) a w := by
  refine wpList_plain hgd fun K hK => ?_
  obtain ⟨v', w', hrun, hA⟩ := run_append_g T w o.type hown hsrc hyl h1 hbase hl hby
  obtain ⟨ao, c, rfl⟩ := own_shape hA.own
  unfold Oper.wp
  simp [execOp, ho, resolve, invoke, builtin, hs, hx, hrun, Result.andThen]
  exact hK _ _ (by simpa using h ao c w' hA)


/-- A row of integers. -/
def iv (zs : List Int) : List Value := zs.map fun z => .int .i64 z
theorem iv_len (zs : List Int) : (iv zs).length = zs.length := by simp [iv]
theorem iv_one (zs : List Int) : ∀ u ∈ iv zs, u.oneCell' = true := by
  intro u hu
  obtain ⟨_, _, rfl⟩ := List.mem_map.1 hu
  rfl
theorem iv_app (a b : List Int) : iv a ++ iv b = iv (a ++ b) := by simp [iv]
theorem iv_at (zs : List Int) (j : Nat) (h : j < zs.length) : (iv zs)[j]? = some (.int .i64 (zs.getD j 0)) := by simp [iv, h, List.getD]
theorem at22 : AT 22 3 (.int .i64 0) 1 8 := ⟨by kernel_rfl, by kernel_rfl, rfl, by omega⟩
/-- Integers that came in, as append wants them. -/
theorem IS.cells {w : World} {ao : Option Addr} {zs : List Int} {c : Nat} (h : IS w ao zs) (hn : zs = [] → ao = none → c = 0) : CellsAt w (.slice ao zs.length c) zs.length (iv zs) := by
  rcases h with rfl | ⟨b, off, rfl, hc⟩
  · cases ao with
    | none => exact .inl ⟨by rw [hn rfl rfl]; rfl, rfl, rfl⟩
    | some ad => exact .inr ⟨ad, c, rfl, fun j u hu => by simp [iv] at hu⟩
  · refine .inr ⟨_, c, rfl, fun j u hu => ?_⟩
    have hj : j < zs.length := by
      have := (List.getElem?_eq_some_iff.1 hu).1
      rwa [iv_len] at this
    rw [Addr.add_lit, hc j hj, ← hu, iv_at zs j hj]
theorem own_is {w : World} {base : Nat} {ao : Option Addr} {c n : Nat} {zs : List Int} (h : w.ownsRow base 3 1 (.slice ao n c) n (iv zs)) (hn : zs.length = n) : IS w ao zs := by
  subst hn
  rcases h.2 with ⟨e, h0⟩ | ⟨g, cap, cur, e, hbg, hh, hnc, hcm, hcs, htake⟩
  · exact .inl (List.eq_nil_of_length_eq_zero h0)
  · simp only [Value.slice.injEq] at e
    obtain ⟨rfl, _, rfl⟩ := e
    refine .inr ⟨g, 0, rfl, fun j hj => ?_⟩
    rw [Nat.zero_add, World.ownsRow.cellAt h j (by omega), iv_at zs j hj]
theorem blk_is {w : World} {g n : Nat} {f : Nat → Nat} (h : Blk w g 3 (ia n f)) (zs : List Int) (hn : zs.length = n) (hf : ∀ j, j < n → zs.getD j 0 = (f j : Nat)) : IS w (some ⟨g, 0, none⟩) zs :=
  .inr ⟨g, 0, rfl, fun j hj => by rw [Nat.zero_add, h.cell, va_at n _ j (by omega), hf j (by omega)]⟩

theorem z61 : ∀ W, (zeroValue 60).run Try.prog W = .ok (.agg (ia 16 fun _ => 0)) W := by
  intro W
  rw [show ia 16 (fun _ => 0) = Array.replicate 16 (.int .i64 0) from (va_replicate 16 _).symm]
  kernel_rfl
theorem b61 : ∀ W, (Instr.build 60 #[]).run Try.prog W = .ok (.agg (ia 16 fun _ => 0)) W := by
  intro W
  rw [show ia 16 (fun _ => 0) = Array.replicate 16 (.int .i64 0) from (va_replicate 16 _).symm]
  kernel_rfl
theorem i61 {F : Nat → Value} : (Try.prog.info? 60).map (·.size) = some (va 16 F).size := by rw [va_size]; kernel_rfl
theorem a3 : ∀ W, (isAgg 3).run Try.prog W = .ok false W := fun _ => by kernel_rfl
theorem s3 : ∀ W, (sizeOf 3).run Try.prog W = .ok 1 W := fun _ => by kernel_rfl

/-- Two rows of the call's own. -/
structure Two (w : World) (p q : Nat) (B C : Array Value) (wr : World) : Prop where
  b : Blk wr p 60 B
  c : Blk wr q 60 C
  below : Below w.heap.size w wr
  lo : w.heap.size ≤ p ∧ p < q
theorem Two.grow {w wr w' : World} {p q : Nat} {B C : Array Value} (h : Two w p q B C wr) (hb : Below wr.heap.size wr w') : Two w p q B C w' :=
  ⟨h.b.below hb, h.c.below hb, h.below.trans (hb.mono h.below.size), h.lo⟩
theorem Two.setC {w wr : World} {p q : Nat} {B C : Array Value} (h : Two w p q B C wr) (i : Nat) (u : Value) : Two w p q B (C.setIfInBounds i u) (wr.setCell ⟨q, i, none⟩ u) := by
  have := h.lo
  exact ⟨h.b.other i u (by omega), h.c.setCell i u, h.below.setCell (by show w.heap.size ≤ q; omega) _, h.lo⟩
theorem Two.setB {w wr W : World} {p q : Nat} {B B' C : Array Value} (h : Two w p q B C wr) (hb : Blk W p 60 B') (ht : Touch (fun k => k = p) wr W) : Two w p q B' C W := by
  have := h.lo
  exact ⟨hb, h.c.touch ht (by omega), h.below.trans (ht.below h.below.size fun k hk => by omega), h.lo⟩

def hist (zs : List Int) (k n : Nat) : Nat := (nat (zs.take k)).count n
theorem hist_le (zs : List Int) (k n : Nat) : hist zs k n ≤ k := by
  unfold hist
  refine Nat.le_trans List.count_le_length ?_
  rw [nat_len, List.length_take]; omega
theorem hist_step {zs : List Int} {k x : Nat} (hk : k < zs.length) (hx : zs.getD k 0 = (x : Int)) (i : Nat) : hist zs (k + 1) i = if i = x then hist zs k x + 1 else hist zs k i := by
  unfold hist
  rw [List.take_succ_eq_append_getElem hk, show zs[k] = (x : Int) by rw [← hx]; simp [List.getD, hk], nat, List.map_append, List.count_append]
  show (nat (zs.take k)).count i + [x].count i = _
  by_cases h : i = x
  · subst h; simp
  · rw [if_neg h, List.count_singleton]; simp [Ne.symm h]
theorem hist_all {zs : List Int} (f : Nat → Nat) (hf : ∀ i, f i = if i = 0 then 0 else hist zs zs.length i) (i : Nat) : f i = cn (nat zs) i := by
  rw [hf]; unfold hist cn
  rw [List.take_length]

def CountNo (w : World) (e : Ending) (w' : World) : Prop := e = .returned (.tuple #[.agg (ia 16 fun _ => 0), .bool false]) ∧ Below w.heap.size w w'
def CountYes (zs : List Int) (w : World) (e : Ending) (w' : World) : Prop := e = .returned (.tuple #[.agg (ia 16 (cn (nat zs))), .bool true]) ∧ Below w.heap.size w w'
def CountBoth (zs : List Int) (w : World) (e : Ending) (w' : World) : Prop := (Vd zs → CountYes zs w e w') ∧ (¬ Vd zs → CountNo w e w')

set_option maxHeartbeats 800000 in
theorem count_long (ao : Option Addr) (L c : Nat) (w : World) (hl : 320 < L) :
    Calls Try.prog 28 #[.slice ao L c] w (CountNo w) := by
  have hl' : (320 : Int) < L := by omega
  go_enter Try.func28, Try.ntmps28
  go_upto_region 2 with (refine wpList_alloc_z rfl 60 rfl _ z61 ?_; intro W hb ht hs; have HS := Lib.hid hs; clear hs)
  rename_i W1 hb1 ht1 HS1 K1 hK1 K0 hK0
  obtain ⟨p, hp⟩ : ∃ p, p = w.heap.size := ⟨_, rfl⟩
  obtain ⟨q, hq⟩ : ∃ q, q = W1.heap.size := ⟨_, rfl⟩
  have H3 : Hid (Two w p q (ia 16 fun _ => 0) (ia 16 fun _ => 0) W) := by
    subst hp hq
    have h1 := HS1.out
    exact Lib.hid ⟨hb1.touch ht (fun h => h), hb, (ht1.trans ht).below (Nat.le_refl _) (fun _ h => h.elim), by omega, by omega⟩
  rw [← hp, ← hq]
  clear hp hq hb1 ht1 HS1 hb ht HS
  go_wp2_with (first
    | (refine wpList_load_row rfl 60 (.tmp 4) rfl q rfl 60 _ H3.out.c 16 3 Try.underlying60 i61 ?_)
    | (refine wpList_store_row rfl 60 (.tmp 2) (.tmp 10) rfl rfl p rfl _ rfl 60 _ H3.out.b i61 (by simp only [va_size]) (ia_one 16 _) ?_; intro W4 hb4 ht4 hs4; have HB := Lib.hid (H3.out.setB hb4 ht4); clear hb4 ht4 hs4))
  exact bodyPost_ret (results_cell2 Try.results28 _ _ _ p rfl 60 _ HB.out.b 16 3 Try.underlying60 i61 _ rfl) rfl ⟨rfl, HB.out.below⟩

set_option maxHeartbeats 1600000 in
theorem count_any (ao : Option Addr) (c : Nat) (zs : List Int) (w : World) (h : IS w ao zs) (hl : zs.length ≤ 320) :
    Calls Try.prog 28 #[.slice ao zs.length c] w (CountBoth zs w) := by
  have HI := Lib.hid h
  clear h
  have hl' : (zs.length : Int) ≤ 320 := by omega
  go_enter Try.func28, Try.ntmps28
  go_upto_region 2 with (refine wpList_alloc_z rfl 60 rfl _ z61 ?_; intro W hb ht hs; have HS := Lib.hid hs; clear hs)
  rename_i W1 hb1 ht1 HS1 K1 hK1 K0 hK0
  obtain ⟨p, hp⟩ : ∃ p, p = w.heap.size := ⟨_, rfl⟩
  obtain ⟨q, hq⟩ : ∃ q, q = W1.heap.size := ⟨_, rfl⟩
  have H3 : Hid (Two w p q (ia 16 fun _ => 0) (ia 16 fun _ => 0) W) := by
    subst hp hq
    have h1 := HS1.out
    exact Lib.hid ⟨hb1.touch ht (fun h => h), hb, (ht1.trans ht).below (Nat.le_refl _) (fun _ h => h.elim), by omega, by omega⟩
  rw [← hp, ← hq]
  clear hp hq hb1 ht1 HS1 hb ht HS
  go_wp2
  go_loopw [13] (fun i wr => ∃ k : Nat, k ≤ zs.length ∧ i = .int .i64 k ∧ (∀ j, j < k → 0 ≤ zs.getD j 0 ∧ zs.getD j 0 ≤ 15) ∧ Two w p q (ia 16 fun _ => 0) (ia 16 (hist zs k)) wr) (fun i _ => zs.length - (intOf i).toNat)
  case atStart => exact ⟨0, Nat.zero_le _, rfl, fun j hj => absurd hj (Nat.not_lt_zero j), H3.out⟩
  case round =>
    obtain ⟨k, hk, rfl, hgood, hrel⟩ := hrel
    have HR := Lib.hid hrel
    have HG := Lib.hid hgood
    clear hrel hgood H3
    by_cases hlt : k < zs.length
    · have hkk : (k : Int) < zs.length := by omega
      obtain ⟨b, off, rfl, hcell⟩ := (HI.out.below HR.out.below).at hlt
      obtain ⟨x, hx⟩ : ∃ x, x = zs.getD k 0 := ⟨_, rfl⟩
      have HX := Lib.hid hx
      rw [← hx] at hcell
      clear hx
      by_cases hbad : x < 0 ∨ 15 < x
      · have hb' : decide (x < 0) = false → decide (15 < x) = true := by
          intro h; simp at h ⊢; omega
        have hno : Hid (¬ Vd zs) := Lib.hid fun v => by
          have := v.all _ (getD_mem hlt)
          rw [← HX.out] at this
          omega
        rcases hbad with hbad | hbad
        · go_wp2_with (first
            | (refine wpList_build_z rfl 60 _ rfl rfl _ b61 ?_)
            | (refine wpList_store_row rfl 60 (.tmp 2) (.tmp 23) rfl rfl p rfl _ rfl 60 _ HR.out.b i61 (by simp only [va_size]) (ia_one 16 _) ?_; intro W4 hb4 ht4 hs4; have HB := Lib.hid (HR.out.setB hb4 ht4); clear hb4 ht4 hs4))
          exact bodyPost_ret (results_cell2 Try.results28 _ _ _ p rfl 60 _ HB.out.b 16 3 Try.underlying60 i61 _ rfl) rfl ⟨fun v => absurd v hno.out, fun _ => ⟨rfl, HB.out.below⟩⟩
        · have hpos : 0 ≤ x := by omega
          go_wp2_with (first
            | (refine wpList_build_z rfl 60 _ rfl rfl _ b61 ?_)
            | (refine wpList_store_row rfl 60 (.tmp 2) (.tmp 23) rfl rfl p rfl _ rfl 60 _ HR.out.b i61 (by simp only [va_size]) (ia_one 16 _) ?_; intro W4 hb4 ht4 hs4; have HB := Lib.hid (HR.out.setB hb4 ht4); clear hb4 ht4 hs4))
          exact bodyPost_ret (results_cell2 Try.results28 _ _ _ p rfl 60 _ HB.out.b 16 3 Try.underlying60 i61 _ rfl) rfl ⟨fun v => absurd v hno.out, fun _ => ⟨rfl, HB.out.below⟩⟩
      · obtain ⟨n, rfl⟩ : ∃ n : Nat, x = (n : Int) := ⟨x.toNat, by omega⟩
        have hn : n ≤ 15 := by omega
        have hn16 : n < 16 := by omega
        have hn0 : ((n : Int) < 16) := by omega
        have h1 : decide ((n : Int) < 0) = false := by simp
        have h2 : decide (15 < (n : Int)) = false := by simp; omega
        clear hbad
        have hy := hist_le zs k n
        have hc2 := (HR.out.c.cell n).trans (va_at 16 _ n hn16)
        have hf2 := HR.out.c.free n
        have HSt := Lib.hid fun i (_ : i < 16) => hist_step hlt HX.out.symm i
        obtain ⟨y, hyy⟩ : ∃ y, y = hist zs k n := ⟨_, rfl⟩
        rw [← hyy] at hy hc2
        have HY := Lib.hid hyy
        clear hyy
        go_wp2
        go_roundw
        case rel =>
          refine ⟨k + 1, by omega, by go_num, fun j hj => ?_, ?_⟩
          · by_cases e : j = k
            · subst e; rw [← HX.out]; omega
            · exact HG.out j (by omega)
          · have := HR.out.setC n (.int .i64 ((y + 1 : Nat) : Int))
            rw [ia_set 16 _ (hist zs (k + 1)) n (y + 1) (by rw [HY.out]; exact HSt.out)] at this
            simpa using this
        case measure => simp [intOf]; omega
    · have hk' : k = zs.length := by omega
      subst hk'
      have hf0 := HR.out.c.free 0
      have hc0 := (HR.out.c.cell 0).trans (va_at 16 _ 0 (by omega))
      have HV : Hid (Vd zs) := Lib.hid ⟨hl, fun z hz => by
        obtain ⟨j, hj, rfl⟩ := List.getElem_of_mem hz
        have := HG.out j hj
        simpa [List.getD, hj] using this⟩
      have H4 : Hid (Two w p q (ia 16 fun _ => 0) (ia 16 (cn (nat zs))) (wr.setCell ⟨q, 0, none⟩ (.int .i64 0))) := by
        have := HR.out.setC 0 (.int .i64 ((0 : Nat) : Int))
        rw [ia_set 16 _ (cn (nat zs)) 0 0 (fun i _ => by rw [← hist_all (zs := zs) _ (fun _ => rfl)])] at this
        exact Lib.hid this
      go_wp2_with (first
        | (refine wpList_load_row rfl 60 (.tmp 4) rfl q rfl 60 _ H4.out.c 16 3 Try.underlying60 i61 ?_)
        | (refine wpList_store_row rfl 60 (.tmp 2) (.tmp 31) rfl rfl p rfl _ rfl 60 _ H4.out.b i61 (by simp only [va_size]) (ia_one 16 _) ?_; intro W4 hb4 ht4 hs4; have HB := Lib.hid (H4.out.setB hb4 ht4); clear hb4 ht4 hs4))
      exact bodyPost_ret (results_cell2 Try.results28 _ _ _ p rfl 60 _ HB.out.b 16 3 Try.underlying60 i61 _ rfl) rfl ⟨fun _ => ⟨rfl, HB.out.below⟩, fun v => absurd HV.out v⟩

theorem count_yes (ao : Option Addr) (c : Nat) (zs : List Int) (w : World) (h : IS w ao zs) (hv : Vd zs) :
    Calls Try.prog 28 #[.slice ao zs.length c] w (CountYes zs w) :=
  (count_any ao c zs w h hv.len).mono fun _ _ k => k.1 hv
theorem count_no (ao : Option Addr) (c : Nat) (zs : List Int) (w : World) (h : IS w ao zs) (hv : ¬ Vd zs) :
    Calls Try.prog 28 #[.slice ao zs.length c] w (CountNo w) := by
  by_cases hl : zs.length ≤ 320
  · exact (count_any ao c zs w h hl).mono fun _ _ k => k.2 hv
  · exact count_long ao zs.length c w (by omega)

theorem cn_le (ls : List Nat) (n : Nat) : cn ls n ≤ ls.length := by
  unfold cn
  split
  · omega
  · exact List.count_le_length
theorem sp_le (ls : List Nat) (hl : ls.length ≤ 320) (n : Nat) : sp ls n ≤ n * 10485760 := by
  induction n with
  | zero => simp [sp]
  | succ n ih =>
    rw [sp]
    have h1 := cn_le ls n
    have h2 : 2 ^ (15 - n) ≤ 2 ^ 15 := Nat.pow_le_pow_right (by omega) (by omega)
    have h3 : cn ls n * 2 ^ (15 - n) ≤ 320 * 2 ^ 15 := Nat.mul_le_mul (by omega) h2
    omega
theorem fp_le (ls : List Nat) (hl : ls.length ≤ 320) (n : Nat) : fp ls n ≤ n * 320 := by
  induction n with
  | zero => simp [fp]
  | succ n ih =>
    rw [fp]
    have h1 := cn_le ls n
    omega
theorem shr_pow (k : Nat) (hk : k < 16) : (32768 : Int) / 2 ^ k = ((2 ^ (15 - k) : Nat) : Int) := by
  have : ∀ k, k < 16 → (32768 : Int) / 2 ^ k = ((2 ^ (15 - k) : Nat) : Int) := by decide
  exact this k hk
theorem sp_int (ls : List Nat) (hl : ls.length ≤ 320) (k : Nat) (hk : k < 16) : wrap64 ((sp ls k : Int) + wrap64 ((cn ls k : Int) * (32768 / 2 ^ k))) = (sp ls (k + 1) : Nat) := by
  have h1 := cn_le ls k
  have h2 := sp_le ls hl k
  rw [shr_pow k hk, ← Int.natCast_mul, sp]
  have h3 : 2 ^ (15 - k) ≤ 2 ^ 15 := Nat.pow_le_pow_right (by omega) (by omega)
  have h4 : cn ls k * 2 ^ (15 - k) ≤ 320 * 2 ^ 15 := Nat.mul_le_mul (by omega) h3
  generalize cn ls k * 2 ^ (15 - k) = z at *
  unfold wrap64
  omega

set_option maxHeartbeats 800000 in
theorem room_any (ls : List Nat) (hl : ls.length ≤ 320) (w : World) :
    Calls Try.prog 29 #[.agg (ia 16 (cn ls))] w fun e w' => e = .returned (.int .i64 (room ls : Nat)) ∧ Below w.heap.size w w' := by
  go_enter Try.func29, Try.ntmps29
  go_upto_region 1 with (refine wpList_box_row rfl 60 (.tmp 0) rfl (ia 16 (cn ls)) rfl ?_; intro W hb ht hs; have HS := Lib.hid hs; clear hs)
  have HB := Lib.hid (ht.below (Nat.le_refl _) (fun _ h => h.elim))
  clear ht HS
  go_wp2_with (refine wpList_load_row rfl 60 (.tmp 1) rfl w.heap.size rfl 60 _ hb 16 3 Try.underlying60 i61 ?_)
  go_loop [3, 7] (fun sv i => ∃ k : Nat, k ≤ 16 ∧ i = .int .i64 k ∧ sv = .int .i64 (sp ls k : Nat)) (fun _ i => 16 - (intOf i).toNat)
  case atStart => exact ⟨0, by omega, rfl, rfl⟩
  case round =>
    obtain ⟨k, hk, rfl, rfl⟩ := hrel
    by_cases hlt : k < 16
    · have hkk : (k : Int) < 16 := by omega
      go_wp2_with (refine wpList_index_row rfl 60 (.tmp 6) (.tmp 7) rfl (ia 16 (cn ls)) rfl .i64 k rfl 16 3 Try.underlying60 hlt a3 s3 _ (va_at 16 _ k hlt) ?_)
      go_round
      case rel => exact ⟨k + 1, by omega, by go_num, by rw [sp_int ls hl k hlt]⟩
      case measure => simp [intOf]; omega
    · have hk' : k = 16 := by omega
      subst hk'
      go_wp2
      go_ret
      exact ⟨rfl, HB.out⟩

set_option maxHeartbeats 800000 in
theorem Room_yes (ao : Option Addr) (c : Nat) (zs : List Int) (w : World) (h : IS w ao zs) (hv : Vd zs) :
    Calls Try.prog 13 #[.slice ao zs.length c] w fun e w' => e = .returned (.tuple #[.int .i64 (room (nat zs) : Nat), .bool true]) ∧ Below w.heap.size w w' := by
  have HI := Lib.hid h
  have HV := Lib.hid hv
  have HL : Hid ((nat zs).length ≤ 320) := Lib.hid (by rw [nat_len]; exact hv.len)
  clear h hv
  go_enter Try.func13, Try.ntmps13
  go_wp2_with (first
    | (go_at_call 28; (refine (count_yes ao c zs _ HI.out HV.out).mono ?_); rintro e w1 ⟨rfl, hb1⟩; have HB1 := Lib.hid hb1; clear hb1)
    | (refine wpList_alloc_z rfl 60 rfl _ z61 ?_; intro W2 hb2 ht2 hs2; have HS2 := Lib.hid hs2; have HT2 := Lib.hid (HB1.out.trans ((ht2.below (Nat.le_refl _) (fun _ h => h.elim)).mono HB1.out.size)); clear hs2)
    | (refine wpList_store_row rfl 60 (.tmp 4) (.tmp 9) rfl rfl w1.heap.size rfl _ rfl 60 _ hb2 i61 (by simp only [va_size]) (ia_one 16 _) ?_; intro W3 hb3 ht3 hs3; have HS3 := Lib.hid hs3; have HT3 := Lib.hid (HT2.out.trans (ht3.below (B := w.heap.size) HT2.out.size (fun k hk => by have := HB1.out.size; omega))); clear hs3)
    | (refine wpList_load_row rfl 60 (.tmp 4) rfl w1.heap.size rfl 60 _ hb3 16 3 Try.underlying60 i61 ?_)
    | (go_at_call 29; (refine (room_any (nat zs) HL.out _).mono ?_); rintro e w4 ⟨rfl, hb4⟩; have HT4 := Lib.hid (HT3.out.trans (hb4.mono HT3.out.size)); clear hb4))
  go_ret2
  exact ⟨rfl, HT4.out⟩
set_option maxHeartbeats 800000 in
theorem Room_no (ao : Option Addr) (c : Nat) (zs : List Int) (w : World) (h : IS w ao zs) (hv : ¬ Vd zs) :
    Calls Try.prog 13 #[.slice ao zs.length c] w fun e w' => e = .returned (.tuple #[.int .i64 0, .bool false]) ∧ Below w.heap.size w w' := by
  have HI := Lib.hid h
  have HV := Lib.hid hv
  clear h hv
  go_enter Try.func13, Try.ntmps13
  go_wp2_with (first
    | (go_at_call 28; (refine (count_no ao c zs _ HI.out HV.out).mono ?_); rintro e w1 ⟨rfl, hb1⟩; have HB1 := Lib.hid hb1; clear hb1)
    | (refine wpList_alloc_z rfl 60 rfl _ z61 ?_; intro W2 hb2 ht2 hs2; have HS2 := Lib.hid hs2; have HT2 := Lib.hid (HB1.out.trans ((ht2.below (Nat.le_refl _) (fun _ h => h.elim)).mono HB1.out.size)); clear hs2)
    | (refine wpList_store_row rfl 60 (.tmp 4) (.tmp 9) rfl rfl w1.heap.size rfl _ rfl 60 _ hb2 i61 (by simp only [va_size]) (ia_one 16 _) ?_; intro W3 hb3 ht3 hs3; have HS3 := Lib.hid hs3; have HT3 := Lib.hid (HT2.out.trans (ht3.below (B := w.heap.size) HT2.out.size (fun k hk => by have := HB1.out.size; omega))); clear hs3))
  go_ret2
  exact ⟨rfl, HT3.out⟩

/-- The room, symbol by symbol. -/
def part1 (x : Nat) : Nat := if x = 0 then 0 else 2 ^ (15 - x)
def rsum (l : List Nat) : Nat := (l.map part1).sum
theorem rsum_app (l : List Nat) (x : Nat) : rsum (l ++ [x]) = rsum l + part1 x := by simp [rsum]
theorem cn_app (l : List Nat) (x n : Nat) : cn (l ++ [x]) n = cn l n + if n = x ∧ n ≠ 0 then 1 else 0 := by
  unfold cn
  by_cases h0 : n = 0
  · simp [h0]
  · rw [if_neg h0, if_neg h0, List.count_append, List.count_singleton]
    by_cases h : n = x
    · simp [h]; intro e; omega
    · simp [h, Ne.symm h]
theorem sp_app (l : List Nat) (x n : Nat) : sp (l ++ [x]) n = sp l n + if x < n then part1 x else 0 := by
  induction n with
  | zero => simp [sp]
  | succ n ih =>
    rw [sp, sp, ih, cn_app, Nat.add_mul]
    by_cases h : n = x
    · subst h
      rw [if_neg (Nat.lt_irrefl n), if_pos (Nat.lt_succ_self n)]
      by_cases h0 : n = 0
      · rw [if_neg (show ¬ (n = n ∧ n ≠ 0) from fun e => e.2 h0), Nat.zero_mul]
        unfold part1
        rw [if_pos h0]
        omega
      · rw [if_pos ⟨rfl, h0⟩, Nat.one_mul]
        unfold part1
        rw [if_neg h0]
        omega
    · rw [if_neg (show ¬ (n = x ∧ n ≠ 0) from fun e => h e.1), Nat.zero_mul]
      by_cases h2 : x < n
      · rw [if_pos h2, if_pos (show x < n + 1 by omega)]
        omega
      · rw [if_neg h2, if_neg (show ¬ x < n + 1 by omega)]
        omega
theorem sp_nil (n : Nat) : sp [] n = 0 := by
  induction n with
  | zero => rfl
  | succ n ih => rw [sp, ih]; simp [cn]
theorem room_rsum (l : List Nat) (h : ∀ x ∈ l, x ≤ 15) : room l = rsum l := by
  have key : ∀ k, k ≤ l.length → sp (l.take k) 16 = rsum (l.take k) := by
    intro k
    induction k with
    | zero => intro _; rw [List.take_zero, sp_nil]; rfl
    | succ k ih =>
      intro hk
      rw [List.take_succ_eq_append_getElem (by omega), sp_app, rsum_app, ih (by omega), if_pos]
      have := h _ (List.getElem_mem (show k < l.length by omega))
      omega
  have := key l.length (Nat.le_refl _)
  rwa [List.take_length] at this
theorem part1_le (x : Nat) : part1 x ≤ 32768 := by
  unfold part1
  split
  · omega
  · have : 2 ^ (15 - x) ≤ 2 ^ 15 := Nat.pow_le_pow_right (by omega) (by omega)
    omega
theorem rsum_le (l : List Nat) : rsum l ≤ l.length * 32768 := by
  unfold rsum
  induction l with
  | nil => simp
  | cons x r ih => have := part1_le x; simp only [List.map_cons, List.sum_cons, List.length_cons]; omega

def RoomTo (zs : List Int) (w : World) (e : Ending) (w' : World) : Prop := w = w' ∧ (Vd zs → e = .returned (.tuple #[.int .i64 (room (nat zs) : Nat), .bool true])) ∧ (¬ Vd zs → e = .returned (.tuple #[.int .i64 0, .bool false]))

theorem rtake {zs : List Int} {k : Nat} {x : Nat} (hk : k < zs.length) (hx : zs.getD k 0 = (x : Int)) : rsum (nat (zs.take (k + 1))) = rsum (nat (zs.take k)) + part1 x := by
  rw [List.take_succ_eq_append_getElem hk, show zs[k] = (x : Int) by rw [← hx]; simp [List.getD, hk], nat, List.map_append]
  exact rsum_app _ _
theorem shr_part {x : Nat} (h1 : 1 ≤ x) (h15 : x ≤ 15) : (32768 : Int) / 2 ^ x = (part1 x : Nat) := by
  unfold part1
  rw [if_neg (by omega)]
  exact shr_pow x (by omega)

/-! ### Integers copied and compared -/
def Copied (zs : List Int) (w : World) (e : Ending) (w' : World) : Prop := ∃ ao c, e = .returned (.slice ao zs.length c) ∧ IS w' ao zs ∧ Below w.heap.size w w'
theorem copy_any (ao : Option Addr) (c : Nat) (zs : List Int) (w : World) (h : IS w ao zs) (hc : zs = [] → ao = none → c = 0) (hl : zs.length ≤ 1000) :
    Calls Try.prog 9 #[.slice ao zs.length c] w (Copied zs w) := by
  have HI := Lib.hid ((h.below (w' := w.alloc (.cells #[] 3)) ((Below.refl _ _).alloc (Nat.le_refl _) _)).cells hc)
  clear h hc
  go_enter Try.func9, Try.ntmps9
  go_wp2_with (refine wpList_append_g at22 rfl (.tmp 5) (.tmp 6) rfl w.heap.size (.slice (some ⟨w.heap.size, 0, none⟩) 0 0) (.slice ao zs.length c) 0 zs.length [] (iv zs) rfl rfl (own_none w 3 1) HI.out (by rw [iv_len]; omega) (iv_one zs) (by simp) (by omega) (by omega) ?_; intro ao2 c2 w2 hA; have HA := Lib.hid hA; clear hA)
  go_ret
  refine ⟨ao2, c2, by simp, ?_, ?_⟩
  · have := HA.out.own
    simp only [Nat.zero_add, List.nil_append] at this
    exact own_is this rfl
  · exact ((Below.refl _ _).alloc (Nat.le_refl _) _).trans ((HA.out.below (own_none w 3 1) (by simp)))

set_option maxHeartbeats 800000 in
theorem same_any (a b : Option Addr) (c d : Nat) (zs : List Int) (w : World) (h : IS w a zs) (h2 : IS w b zs) (hl : zs.length ≤ 1000) :
    Calls Try.prog 12 #[.slice a zs.length c, .slice b zs.length d] w fun e w' => e = .returned (.bool true) ∧ ∃ q, w' = w.drewN q := by
  have H1 := Lib.hid h
  have H2 := Lib.hid h2
  clear h h2
  have hnn : ((zs.length : Int) != zs.length) = false := by simp
  go_enter Try.func12, Try.ntmps12
  go_wp2
  go_loopw [5] (fun i wr => ∃ k q : Nat, k ≤ zs.length ∧ i = .int .i64 k ∧ wr = w.drewN q) (fun i _ => zs.length - (intOf i).toNat)
  case atStart => exact ⟨0, 0, Nat.zero_le _, rfl, rfl⟩
  case round =>
    obtain ⟨k, q, hk, rfl, rfl⟩ := hrel
    by_cases hlt : k < zs.length
    · have hkk : (k : Int) < zs.length := by omega
      obtain ⟨b1, o1, rfl, c1⟩ := H1.out.at hlt
      obtain ⟨b2, o2, rfl, c2⟩ := H2.out.at hlt
      obtain ⟨x, hx⟩ : ∃ x, x = zs.getD k 0 := ⟨_, rfl⟩
      rw [← hx] at c1 c2
      clear hx
      have hxx : (x != x) = false := by simp
      go_wp2
      go_quiet (fail)
      go_wp2
      go_roundw
      case rel => exact ⟨k + 1, _, by omega, by go_num, rfl⟩
      case measure => simp [intOf]; omega
    · have hk' : k = zs.length := by omega
      subst hk'
      go_wp2
      go_ret
      exact ⟨rfl, _, rfl⟩

end Go.Proofs.Ytccfbkbfmkdapaa
