/-
  Contracts: how many lengths there are of each kind; their room; the first codes, the places; how many codes.
-/
import Derived.Test.YthgehgdbplbcfaaL
namespace Go.Proofs.Ythgehgdbplbcfaa
open Go.RowKit

theorem z61 : ∀ W, (zeroValue 61).run Try.prog W = .ok (.agg (ia 16 fun _ => 0)) W := by
  intro W
  rw [show ia 16 (fun _ => 0) = Array.replicate 16 (.int .i64 0) from (va_replicate 16 _).symm]
  kernel_rfl
theorem b61 : ∀ W, (Instr.build 61 #[]).run Try.prog W = .ok (.agg (ia 16 fun _ => 0)) W := by
  intro W
  rw [show ia 16 (fun _ => 0) = Array.replicate 16 (.int .i64 0) from (va_replicate 16 _).symm]
  kernel_rfl
theorem i61 {F : Nat → Value} : (Try.prog.info? 61).map (·.size) = some (va 16 F).size := by rw [va_size]; kernel_rfl
theorem a3 : ∀ W, (isAgg 3).run Try.prog W = .ok false W := fun _ => by kernel_rfl
theorem s3 : ∀ W, (sizeOf 3).run Try.prog W = .ok 1 W := fun _ => by kernel_rfl

/-- Two rows of the call's own. -/
structure Two (w : World) (p q : Nat) (B C : Array Value) (wr : World) : Prop where
  b : Blk wr p 61 B
  c : Blk wr q 61 C
  below : Below w.heap.size w wr
  lo : w.heap.size ≤ p ∧ p < q
theorem Two.grow {w wr w' : World} {p q : Nat} {B C : Array Value} (h : Two w p q B C wr) (hb : Below wr.heap.size wr w') : Two w p q B C w' :=
  ⟨h.b.below hb, h.c.below hb, h.below.trans (hb.mono h.below.size), h.lo⟩
theorem Two.setC {w wr : World} {p q : Nat} {B C : Array Value} (h : Two w p q B C wr) (i : Nat) (u : Value) : Two w p q B (C.setIfInBounds i u) (wr.setCell ⟨q, i, none⟩ u) := by
  have := h.lo
  exact ⟨h.b.other i u (by omega), h.c.setCell i u, h.below.setCell (by show w.heap.size ≤ q; omega) _, h.lo⟩
theorem Two.setB {w wr W : World} {p q : Nat} {B B' C : Array Value} (h : Two w p q B C wr) (hb : Blk W p 61 B') (ht : Touch (fun k => k = p) wr W) : Two w p q B' C W := by
  have := h.lo
  exact ⟨hb, h.c.touch ht (by omega), h.below.trans (ht.below h.below.size fun k hk => by omega), h.lo⟩

def hist (zs : List Int) (k n : Nat) : Nat := (nat (zs.take k)).count n
theorem hist_le (zs : List Int) (k n : Nat) : hist zs k n ≤ k := by
  unfold hist
  refine Nat.le_trans List.count_le_length ?_
  rw [nat_len, List.length_take]; omega
theorem hist_step {zs : List Int} {k x : Nat} (hk : k < zs.length) (hx : zs.getD k 0 = (x : Int)) (i : Nat) : hist zs (k + 1) i = if i = x then hist zs k x + 1 else hist zs k i := by
  unfold hist
  rw [List.take_succ_eq_append_getElem hk, show zs[k] = (x : Int) by rw [← hx]; simp [List.getD, hk], nat, List.map_append, List.count_append]
  show (nat (zs.take k)).count i + [x].count i = _
  by_cases h : i = x
  · subst h; simp
  · rw [if_neg h, List.count_singleton]; simp [Ne.symm h]
theorem hist_all {zs : List Int} (f : Nat → Nat) (hf : ∀ i, f i = if i = 0 then 0 else hist zs zs.length i) (i : Nat) : f i = cn (nat zs) i := by
  rw [hf]; unfold hist cn
  rw [List.take_length]

def CountNo (w : World) (e : Ending) (w' : World) : Prop := e = .returned (.tuple #[.agg (ia 16 fun _ => 0), .bool false]) ∧ Below w.heap.size w w'
def CountYes (zs : List Int) (w : World) (e : Ending) (w' : World) : Prop := e = .returned (.tuple #[.agg (ia 16 (cn (nat zs))), .bool true]) ∧ Below w.heap.size w w'
def CountBoth (zs : List Int) (w : World) (e : Ending) (w' : World) : Prop := (Vd zs → CountYes zs w e w') ∧ (¬ Vd zs → CountNo w e w')

set_option maxHeartbeats 800000 in
theorem count_long (ao : Option Addr) (L c : Nat) (w : World) (hl : 320 < L) :
    Calls Try.prog 29 #[.slice ao L c] w (CountNo w) := by
  have hl' : (320 : Int) < L := by omega
  go_enter Try.func29, Try.ntmps29
  go_upto_region 2 with (refine wpList_alloc_z rfl 61 rfl _ z61 ?_; intro W hb ht hs; have HS := Lib.hid hs; clear hs)
  rename_i W1 hb1 ht1 HS1 K1 hK1 K0 hK0
  obtain ⟨p, hp⟩ : ∃ p, p = w.heap.size := ⟨_, rfl⟩
  obtain ⟨q, hq⟩ : ∃ q, q = W1.heap.size := ⟨_, rfl⟩
  have H3 : Hid (Two w p q (ia 16 fun _ => 0) (ia 16 fun _ => 0) W) := by
    subst hp hq
    have h1 := HS1.out
    exact Lib.hid ⟨hb1.touch ht (fun h => h), hb, (ht1.trans ht).below (Nat.le_refl _) (fun _ h => h.elim), by omega, by omega⟩
  rw [← hp, ← hq]
  clear hp hq hb1 ht1 HS1 hb ht HS
  go_wp2_with (first
    | (refine wpList_load_row rfl 61 (.tmp 4) rfl q rfl 61 _ H3.out.c 16 3 Try.underlying61 i61 ?_)
    | (refine wpList_store_row rfl 61 (.tmp 2) (.tmp 10) rfl rfl p rfl _ rfl 61 _ H3.out.b i61 (by simp only [va_size]) (ia_one 16 _) ?_; intro W4 hb4 ht4 hs4; have HB := Lib.hid (H3.out.setB hb4 ht4); clear hb4 ht4 hs4))
  exact bodyPost_ret (results_cell2 Try.results29 _ _ _ p rfl 61 _ HB.out.b 16 3 Try.underlying61 i61 _ rfl) rfl ⟨rfl, HB.out.below⟩

set_option maxHeartbeats 1600000 in
theorem count_any (ao : Option Addr) (c : Nat) (zs : List Int) (w : World) (h : IS w ao zs) (hl : zs.length ≤ 320) :
    Calls Try.prog 29 #[.slice ao zs.length c] w (CountBoth zs w) := by
  have HI := Lib.hid h
  clear h
  have hl' : (zs.length : Int) ≤ 320 := by omega
  go_enter Try.func29, Try.ntmps29
  go_upto_region 2 with (refine wpList_alloc_z rfl 61 rfl _ z61 ?_; intro W hb ht hs; have HS := Lib.hid hs; clear hs)
  rename_i W1 hb1 ht1 HS1 K1 hK1 K0 hK0
  obtain ⟨p, hp⟩ : ∃ p, p = w.heap.size := ⟨_, rfl⟩
  obtain ⟨q, hq⟩ : ∃ q, q = W1.heap.size := ⟨_, rfl⟩
  have H3 : Hid (Two w p q (ia 16 fun _ => 0) (ia 16 fun _ => 0) W) := by
    subst hp hq
    have h1 := HS1.out
    exact Lib.hid ⟨hb1.touch ht (fun h => h), hb, (ht1.trans ht).below (Nat.le_refl _) (fun _ h => h.elim), by omega, by omega⟩
  rw [← hp, ← hq]
  clear hp hq hb1 ht1 HS1 hb ht HS
  go_wp2
  go_loopw [13] (fun i wr => ∃ k : Nat, k ≤ zs.length ∧ i = .int .i64 k ∧ (∀ j, j < k → 0 ≤ zs.getD j 0 ∧ zs.getD j 0 ≤ 15) ∧ Two w p q (ia 16 fun _ => 0) (ia 16 (hist zs k)) wr) (fun i _ => zs.length - (intOf i).toNat)
  case atStart => exact ⟨0, Nat.zero_le _, rfl, fun j hj => absurd hj (Nat.not_lt_zero j), H3.out⟩
  case round =>
    obtain ⟨k, hk, rfl, hgood, hrel⟩ := hrel
    have HR := Lib.hid hrel
    have HG := Lib.hid hgood
    clear hrel hgood H3
    by_cases hlt : k < zs.length
    · have hkk : (k : Int) < zs.length := by omega
      obtain ⟨b, off, rfl, hcell⟩ := (HI.out.below HR.out.below).at hlt
      obtain ⟨x, hx⟩ : ∃ x, x = zs.getD k 0 := ⟨_, rfl⟩
      have HX := Lib.hid hx
      rw [← hx] at hcell
      clear hx
      by_cases hbad : x < 0 ∨ 15 < x
      · have hb' : decide (x < 0) = false → decide (15 < x) = true := by
          intro h; simp at h ⊢; omega
        have hno : Hid (¬ Vd zs) := Lib.hid fun v => by
          have := v.all _ (getD_mem hlt)
          rw [← HX.out] at this
          omega
        rcases hbad with hbad | hbad
        · go_wp2_with (first
            | (refine wpList_build_z rfl 61 _ rfl rfl _ b61 ?_)
            | (refine wpList_store_row rfl 61 (.tmp 2) (.tmp 23) rfl rfl p rfl _ rfl 61 _ HR.out.b i61 (by simp only [va_size]) (ia_one 16 _) ?_; intro W4 hb4 ht4 hs4; have HB := Lib.hid (HR.out.setB hb4 ht4); clear hb4 ht4 hs4))
          exact bodyPost_ret (results_cell2 Try.results29 _ _ _ p rfl 61 _ HB.out.b 16 3 Try.underlying61 i61 _ rfl) rfl ⟨fun v => absurd v hno.out, fun _ => ⟨rfl, HB.out.below⟩⟩
        · have hpos : 0 ≤ x := by omega
          go_wp2_with (first
            | (refine wpList_build_z rfl 61 _ rfl rfl _ b61 ?_)
            | (refine wpList_store_row rfl 61 (.tmp 2) (.tmp 23) rfl rfl p rfl _ rfl 61 _ HR.out.b i61 (by simp only [va_size]) (ia_one 16 _) ?_; intro W4 hb4 ht4 hs4; have HB := Lib.hid (HR.out.setB hb4 ht4); clear hb4 ht4 hs4))
          exact bodyPost_ret (results_cell2 Try.results29 _ _ _ p rfl 61 _ HB.out.b 16 3 Try.underlying61 i61 _ rfl) rfl ⟨fun v => absurd v hno.out, fun _ => ⟨rfl, HB.out.below⟩⟩
      · obtain ⟨n, rfl⟩ : ∃ n : Nat, x = (n : Int) := ⟨x.toNat, by omega⟩
        have hn : n ≤ 15 := by omega
        have hn16 : n < 16 := by omega
        have hn0 : ((n : Int) < 16) := by omega
        have h1 : decide ((n : Int) < 0) = false := by simp
        have h2 : decide (15 < (n : Int)) = false := by simp; omega
        clear hbad
        have hy := hist_le zs k n
        have hc2 := (HR.out.c.cell n).trans (va_at 16 _ n hn16)
        have hf2 := HR.out.c.free n
        have HSt := Lib.hid fun i (_ : i < 16) => hist_step hlt HX.out.symm i
        obtain ⟨y, hyy⟩ : ∃ y, y = hist zs k n := ⟨_, rfl⟩
        rw [← hyy] at hy hc2
        have HY := Lib.hid hyy
        clear hyy
        go_wp2
        go_roundw
        case rel =>
          refine ⟨k + 1, by omega, by go_num, fun j hj => ?_, ?_⟩
          · by_cases e : j = k
            · subst e; rw [← HX.out]; omega
            · exact HG.out j (by omega)
          · have := HR.out.setC n (.int .i64 ((y + 1 : Nat) : Int))
            rw [ia_set 16 _ (hist zs (k + 1)) n (y + 1) (by rw [HY.out]; exact HSt.out)] at this
            simpa using this
        case measure => simp [intOf]; omega
    · have hk' : k = zs.length := by omega
      subst hk'
      have hf0 := HR.out.c.free 0
      have hc0 := (HR.out.c.cell 0).trans (va_at 16 _ 0 (by omega))
      have HV : Hid (Vd zs) := Lib.hid ⟨hl, fun z hz => by
        obtain ⟨j, hj, rfl⟩ := List.getElem_of_mem hz
        have := HG.out j hj
        simpa [List.getD, hj] using this⟩
      have H4 : Hid (Two w p q (ia 16 fun _ => 0) (ia 16 (cn (nat zs))) (wr.setCell ⟨q, 0, none⟩ (.int .i64 0))) := by
        have := HR.out.setC 0 (.int .i64 ((0 : Nat) : Int))
        rw [ia_set 16 _ (cn (nat zs)) 0 0 (fun i _ => by rw [← hist_all (zs := zs) _ (fun _ => rfl)])] at this
        exact Lib.hid this
      go_wp2_with (first
        | (refine wpList_load_row rfl 61 (.tmp 4) rfl q rfl 61 _ H4.out.c 16 3 Try.underlying61 i61 ?_)
        | (refine wpList_store_row rfl 61 (.tmp 2) (.tmp 31) rfl rfl p rfl _ rfl 61 _ H4.out.b i61 (by simp only [va_size]) (ia_one 16 _) ?_; intro W4 hb4 ht4 hs4; have HB := Lib.hid (H4.out.setB hb4 ht4); clear hb4 ht4 hs4))
      exact bodyPost_ret (results_cell2 Try.results29 _ _ _ p rfl 61 _ HB.out.b 16 3 Try.underlying61 i61 _ rfl) rfl ⟨fun _ => ⟨rfl, HB.out.below⟩, fun v => absurd HV.out v⟩

theorem count_yes (ao : Option Addr) (c : Nat) (zs : List Int) (w : World) (h : IS w ao zs) (hv : Vd zs) :
    Calls Try.prog 29 #[.slice ao zs.length c] w (CountYes zs w) :=
  (count_any ao c zs w h hv.len).mono fun _ _ k => k.1 hv
theorem count_no (ao : Option Addr) (c : Nat) (zs : List Int) (w : World) (h : IS w ao zs) (hv : ¬ Vd zs) :
    Calls Try.prog 29 #[.slice ao zs.length c] w (CountNo w) := by
  by_cases hl : zs.length ≤ 320
  · exact (count_any ao c zs w h hl).mono fun _ _ k => k.2 hv
  · exact count_long ao zs.length c w (by omega)
end Go.Proofs.Ythgehgdbplbcfaa
