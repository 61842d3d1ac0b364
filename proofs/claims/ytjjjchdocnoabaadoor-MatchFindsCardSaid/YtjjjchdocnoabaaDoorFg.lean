/-
  Find.
-/
import Derived.Test.YtjjjchdocnoabaaDoorFs
import Derived.Test.YtjjjchdocnoabaaDoorFx
namespace Go.Proofs.YtjjjchdocnoabaaDoor
open Go.RowKit Go.Maps
set_option maxRecDepth 100000

/-- What the table holds: how many places, how long a copy gives way. -/
def eff : List Nat := [0, 0, 8, 0, 16, 0, 32, 0, 32, 8, 48, 16, 64, 32, 96, 64, 128, 128, 256, 258]
def TabM (w : World) : Prop := ∀ j, j < 20 → w.cell? ⟨0, j, none⟩ = some (.int .i64 (eff.getD j 0 : Nat))
theorem TabM.keep {W W' : World} (h : TabM W) (hb : Below W.heap.size W W') : TabM W' := fun j hj => by
  have := h j hj
  exact (hb.cell (World.block_lt_of_cell? W _ this)).trans this
theorem eff_le : ∀ j, j < 20 → eff.getD j 0 ≤ 1000 := by decide
theorem eff_pos : ∀ i, i < 10 → (eff.getD (i * 2) 0 = 0 ↔ i = 0) := by decide

set_option maxHeartbeats 3200000 in
theorem find_some (ao : Option Addr) (c : Nat) (bs : List Nat) (level : Int) (w : World) (hT : TabM w) (h : BySl w (.slice ao bs.length c) bs) (hb : Bs bs) (hl : bs.length ≤ 30000) :
    Calls Tryd.prog 8 #[.slice ao bs.length c, .int .i64 level] w (FindTo bs level w) := by
  obtain ⟨i, hi⟩ : ∃ i : Nat, i = (min (max level 0) 9).toNat := ⟨_, rfl⟩
  have hib : i ≤ 9 ∧ (i = 0 ↔ level ≤ 0) := by omega
  have HIC := Lib.hid (show (level < 0 ∧ i = 0) ∨ level = (i : Int) ∨ (9 < level ∧ i = 9) by omega)
  obtain ⟨pl, hpl⟩ : ∃ pl, pl = eff.getD (i * 2) 0 := ⟨_, rfl⟩
  obtain ⟨wt, hwt⟩ : ∃ wt, wt = eff.getD (i * 2 + 1) 0 := ⟨_, rfl⟩
  have t0 := hT (i * 2) (by omega)
  have t1 := hT (i * 2 + 1) (by omega)
  rw [← hpl] at t0
  rw [← hwt] at t1
  have HN := Lib.hid (show pl ≤ 1000 ∧ wt ≤ 1000 from ⟨by rw [hpl]; exact eff_le _ (by omega), by rw [hwt]; exact eff_le _ (by omega)⟩)
  have HP := Lib.hid (show pl = 0 ↔ level ≤ 0 by rw [hpl, eff_pos i (by omega)]; exact hib.2)
  have HS := Lib.hid (And.intro h (And.intro hb (And.intro hl (by_cap h))))
  have hib9 := hib.1
  obtain ⟨W1, hW1⟩ : ∃ W1, W1 = w.alloc (.cells #[.int .i64 (pl : Nat), .int .i64 (wt : Nat)] 42) := ⟨_, rfl⟩
  have hK1 : Blk W1 w.heap.size 42 #[.int .i64 (pl : Nat), .int .i64 (wt : Nat)] := by rw [hW1]; exact Blk.made w 42 _
  have hB1 : Below w.heap.size w W1 := by rw [hW1]; exact (Below.refl _ _).alloc (Nat.le_refl _) _
  have HK1 := Lib.hid hK1
  have HB1 := Lib.hid hB1
  clear hi hpl hwt h hb hT hib hK1 hB1
  have hmm := @run_makeMap Tryd.prog
  go_enter Tryd.func8, Tryd.ntmps8
  go_upto_region 1 with fail
  go_cut [5] from 7 (fun s5 wx => s5 = .pointer (some ⟨w.heap.size, 0, none⟩) ∧ wx = W1)
  case first =>
    rcases HIC.out with ⟨q1, q2⟩ | q1 | ⟨q1, q2⟩
    · subst q2
      go_wp2
      go_meet
      case rel => exact ⟨rfl, hW1.symm⟩
    · subst q1
      have q3 : (i : Int) ≤ 9 := by omega
      go_wp2
      go_meet
      case rel => exact ⟨rfl, hW1.symm⟩
    · subst q2
      have q3 : (0 : Int) ≤ level := by omega
      have q4 : (9 : Int) ≤ level := by omega
      go_wp2
      go_meet
      case rel => exact ⟨rfl, hW1.symm⟩
  case rest =>
  obtain ⟨rfl, hwx⟩ := hcut
  rw [hwx]
  have x0 := (HK1.out.cell 0).trans (show _ = some (.int .i64 (pl : Nat)) from rfl)
  have x1 := (HK1.out.cell 1).trans (show _ = some (.int .i64 (wt : Nat)) from rfl)
  clear hwx hW1 t0 t1 HIC
  by_cases hp0 : pl = 0
  · subst hp0
    have HLV := Lib.hid (HP.out.1 rfl)
    go_wp2_with fail
    refine (singles_any _ bs W1 (by_on HS.out.1 HB1.out) HS.out.2.1 HS.out.2.2.1).mono ?_
    rintro e w2 ⟨ao2, c2, rfl, hks, hbel, hcc⟩
    have HR := Lib.hid (And.intro hks (And.intro (bel_on HB1.out hbel) hcc))
    clear hks hbel hcc
    go_wp2
    go_ret
    exact ⟨ao2, c2, lits bs, rfl, HR.out.1, HR.out.2.1, HR.out.2.2, by have := lits_ex bs []; simpa using this, fun t ht => by obtain ⟨x, hx, rfl⟩ := List.mem_map.1 ht; exact HS.out.2.1 x hx, fun _ t ht => by obtain ⟨x, hx, rfl⟩ := List.mem_map.1 ht; rfl, fun h => by have := HLV.out; omega⟩
  · have hp0' : ((pl : Int) == 0) = false := by simp; omega
    have HLV := Lib.hid (show 0 < level by have := HP.out; omega)
    obtain ⟨L, hL⟩ : ∃ L, L = bs.length := ⟨_, rfl⟩
    have HL := Lib.hid hL
    rw [← hL] at hl ⊢
    have hmn : min (L : Int) 32768 = (L : Int) := by omega
    have hlt : (L : Int) < 32768 := by omega
    obtain ⟨ix, hix, hz0, hz1, hz2⟩ := info_parts (show (Tryd.prog.info? 3).map (fun i => (i.zero, i.size, i.bytes)) = some (some (.int .i64 0), 1, 8) by kernel_rfl)
    have hmk : ∀ W, (Instr.makeSlice 47 (.int .i64 (L : Int)) (.int .i64 (L : Int))).run Tryd.prog W = .ok (.slice (some ⟨W.heap.size, 0, none⟩) L L) (W.alloc (.cells (va L fun _ => .int .i64 0) 3)) := fun W => by
      have hr := run_make (P := Tryd.prog) W 47 3 ix (.int .i64 0) Tryd.underlying47 hix hz0 .i64 .i64 (L : Int) (L : Int) (by omega) (Int.le_refl _) (by rw [hz2]; omega) (by omega)
      rw [Int.toNat_natCast, hz1, va_made, Nat.mul_one] at hr
      have he : (va L fun i => (Value.int .i64 0).cells[i % (Value.int .i64 0).cells.size]!) = va L fun _ => Value.int .i64 0 := va_congr fun i _ => by
        have hc : (Value.int .i64 0).cells = #[.int .i64 0] := rfl
        rw [hc]
        simp [Nat.mod_one]
      rw [he] at hr
      exact hr
    clear hp0 hL hix hz0 hz1 hz2
    have hA : ∀ (W : World) (o : Obj) (j : Nat) (u : Value), W.cell? ⟨w.heap.size, j, none⟩ = some u → (W.alloc o).cell? ⟨w.heap.size, j, none⟩ = some u := fun W o j u hu => (((Below.refl W.heap.size W).alloc (Nat.le_refl _) o).cell (World.block_lt_of_cell? W _ hu)).trans hu
    have y0 := hA _ (.map #[] 0) 0 _ x0
    have y1 := hA _ (.map #[] 0) 1 _ x1
    have z0 := hA _ (.cells (va L fun _ => .int .i64 0) 3) 0 _ x0
    have z1 := hA _ (.cells (va L fun _ => .int .i64 0) 3) 1 _ x1
    have y2 := hA _ (.cells (va L fun _ => .int .i64 0) 3) 0 _ y0
    have y3 := hA _ (.cells (va L fun _ => .int .i64 0) 3) 1 _ y1
    have z2 := hA _ (.map #[] 0) 0 _ z0
    have z3 := hA _ (.map #[] 0) 1 _ z1
    clear hA
    go_wp2
    go_region
    · have HFN : Hid (Fin (((W1.alloc (.map #[] 0)).alloc (.cells (va L fun _ => .int .i64 0) 3)).alloc (.cells #[.int .i64 (pl : Nat), .int .i64 (wt : Nat), .slice ao L c, .map (some W1.heap.size), .slice (some ⟨W1.heap.size + 1, 0, none⟩) L L, .bool false] 49)).drew w.heap.size (W1.heap.size + 1 + 1) W1.heap.size (W1.heap.size + 1) pl wt (.slice ao L c) bs false 0 ∧ Below w.heap.size w (((W1.alloc (.map #[] 0)).alloc (.cells (va L fun _ => .int .i64 0) 3)).alloc (.cells #[.int .i64 (pl : Nat), .int .i64 (wt : Nat), .slice ao L c, .map (some W1.heap.size), .slice (some ⟨W1.heap.size + 1, 0, none⟩) L L, .bool false] 49)).drew) := Lib.hid (by
        have s1 := asize W1 (.map #[] 0)
        have s2 := asize (W1.alloc (.map #[] 0)) (.cells (va L fun _ => .int .i64 0) 3)
        have hsz := HB1.out.size
        have b1 := HB1.out.alloc HB1.out.size (.map #[] 0)
        have b2 := b1.alloc b1.size (.cells (va L fun _ => .int .i64 0) 3)
        have b3 := b2.alloc b2.size (.cells #[.int .i64 (pl : Nat), .int .i64 (wt : Nat), .slice ao L c, .map (some W1.heap.size), .slice (some ⟨W1.heap.size + 1, 0, none⟩) L L, .bool false] 49)
        have b4 := below_drew b3
        refine ⟨⟨?_, by_on (by rw [HL.out]; exact HS.out.1) b4, ⟨_, ((World.ownsMap_made W1 Tryd.prog 60 (plainElem (H := Unit) Tryd.prog 3)).alloc _).alloc _, Mof.start bs⟩, ⟨fun _ => 0, ?_, fun q hq => by omega⟩, ⟨by rw [HL.out]; exact HS.out.2.2.2, by omega, by omega, by omega, by omega, by omega, by omega⟩, HN.out⟩, b4⟩
        · rw [← HL.out]
          have := Blk.made ((W1.alloc (.map #[] 0)).alloc (.cells (va L fun _ => .int .i64 0) 3)) 49 #[.int .i64 (pl : Nat), .int .i64 (wt : Nat), .slice ao L c, .map (some W1.heap.size), .slice (some ⟨W1.heap.size + 1, 0, none⟩) L L, .bool false]
          rw [s2, s1] at this
          exact this
        · rw [← HL.out]
          have := Blk.made (W1.alloc (.map #[] 0)) 3 (va L fun _ => .int .i64 0)
          rw [s1] at this
          exact (this.below ((Below.refl _ _).alloc (Nat.le_refl _) _)).drewN 1)
      have HSZ : Hid (W1.heap.size + 1 + 1 + 1 = (((W1.alloc (.map #[] 0)).alloc (.cells (va L fun _ => .int .i64 0) 3)).alloc (.cells #[.int .i64 (pl : Nat), .int .i64 (wt : Nat), .slice ao L c, .map (some W1.heap.size), .slice (some ⟨W1.heap.size + 1, 0, none⟩) L L, .bool false] 49)).drew.heap.size) := Lib.hid (by simp)
      generalize (((W1.alloc (.map #[] 0)).alloc (.cells (va L fun _ => .int .i64 0) 3)).alloc (.cells #[.int .i64 (pl : Nat), .int .i64 (wt : Nat), .slice ao L c, .map (some W1.heap.size), .slice (some ⟨W1.heap.size + 1, 0, none⟩) L L, .bool false] 49)).drew = W3 at HFN HSZ ⊢
      clear x0 x1 y0 y1 y2 y3 z0 z1 z2 z3 hmk hmm
      go_wp2_with fail
      refine (tokens_any (W1.heap.size + 1 + 1) W1.heap.size (W1.heap.size + 1) pl wt _ bs w.heap.size W3 HFN.out.1 HS.out.2.1 HS.out.2.2.1 HFN.out.2.size (by rw [← HSZ.out]; omega)).mono ?_
      rintro e w5 ⟨ao2, c2, r, rfl, h1, h2, h3, h4, h5, h6⟩
      have HR := Lib.hid (And.intro h1 (And.intro (HFN.out.2.trans h2) (And.intro h3 (And.intro h4 (And.intro h5 h6)))))
      clear h1 h2 h3 h4 h5 h6
      go_wp2
      go_ret
      exact ⟨ao2, c2, r, rfl, HR.out.1, HR.out.2.1, HR.out.2.2.1, HR.out.2.2.2.1, HR.out.2.2.2.2.1, fun h => by have := HLV.out; omega, fun _ => HR.out.2.2.2.2.2⟩
    · have HFN : Hid (Fin (((W1.alloc (.cells (va L fun _ => .int .i64 0) 3)).alloc (.map #[] 0)).alloc (.cells #[.int .i64 (pl : Nat), .int .i64 (wt : Nat), .slice ao L c, .map (some (W1.heap.size + 1)), .slice (some ⟨W1.heap.size, 0, none⟩) L L, .bool false] 49)).drew w.heap.size (W1.heap.size + 1 + 1) (W1.heap.size + 1) W1.heap.size pl wt (.slice ao L c) bs false 0 ∧ Below w.heap.size w (((W1.alloc (.cells (va L fun _ => .int .i64 0) 3)).alloc (.map #[] 0)).alloc (.cells #[.int .i64 (pl : Nat), .int .i64 (wt : Nat), .slice ao L c, .map (some (W1.heap.size + 1)), .slice (some ⟨W1.heap.size, 0, none⟩) L L, .bool false] 49)).drew) := Lib.hid (by
        have s1 := asize W1 (.cells (va L fun _ => .int .i64 0) 3)
        have s2 := asize (W1.alloc (.cells (va L fun _ => .int .i64 0) 3)) (.map #[] 0)
        have hsz := HB1.out.size
        have b1 := HB1.out.alloc HB1.out.size (.cells (va L fun _ => .int .i64 0) 3)
        have b2 := b1.alloc b1.size (.map #[] 0)
        have b3 := b2.alloc b2.size (.cells #[.int .i64 (pl : Nat), .int .i64 (wt : Nat), .slice ao L c, .map (some (W1.heap.size + 1)), .slice (some ⟨W1.heap.size, 0, none⟩) L L, .bool false] 49)
        have b4 := below_drew b3
        have hom := World.ownsMap_made (W1.alloc (.cells (va L fun _ => .int .i64 0) 3)) Tryd.prog 60 (plainElem (H := Unit) Tryd.prog 3)
        rw [s1] at hom
        refine ⟨⟨?_, by_on (by rw [HL.out]; exact HS.out.1) b4, ⟨_, hom.alloc _, Mof.start bs⟩, ⟨fun _ => 0, ?_, fun q hq => by omega⟩, ⟨by rw [HL.out]; exact HS.out.2.2.2, by omega, by omega, by omega, by omega, by omega, by omega⟩, HN.out⟩, b4⟩
        · rw [← HL.out]
          have := Blk.made ((W1.alloc (.cells (va L fun _ => .int .i64 0) 3)).alloc (.map #[] 0)) 49 #[.int .i64 (pl : Nat), .int .i64 (wt : Nat), .slice ao L c, .map (some (W1.heap.size + 1)), .slice (some ⟨W1.heap.size, 0, none⟩) L L, .bool false]
          rw [s2, s1] at this
          exact this
        · rw [← HL.out]
          have := Blk.made W1 3 (va L fun _ => .int .i64 0)
          exact ((this.below ((Below.refl _ _).alloc (Nat.le_refl _) _)).below ((Below.refl _ _).alloc (Nat.le_refl _) _)).drewN 1)
      have HSZ : Hid (W1.heap.size + 1 + 1 + 1 = (((W1.alloc (.cells (va L fun _ => .int .i64 0) 3)).alloc (.map #[] 0)).alloc (.cells #[.int .i64 (pl : Nat), .int .i64 (wt : Nat), .slice ao L c, .map (some (W1.heap.size + 1)), .slice (some ⟨W1.heap.size, 0, none⟩) L L, .bool false] 49)).drew.heap.size) := Lib.hid (by simp)
      generalize (((W1.alloc (.cells (va L fun _ => .int .i64 0) 3)).alloc (.map #[] 0)).alloc (.cells #[.int .i64 (pl : Nat), .int .i64 (wt : Nat), .slice ao L c, .map (some (W1.heap.size + 1)), .slice (some ⟨W1.heap.size, 0, none⟩) L L, .bool false] 49)).drew = W3 at HFN HSZ ⊢
      clear x0 x1 y0 y1 y2 y3 z0 z1 z2 z3 hmk hmm
      go_wp2_with fail
      refine (tokens_any (W1.heap.size + 1 + 1) (W1.heap.size + 1) W1.heap.size pl wt _ bs w.heap.size W3 HFN.out.1 HS.out.2.1 HS.out.2.2.1 HFN.out.2.size (by rw [← HSZ.out]; omega)).mono ?_
      rintro e w5 ⟨ao2, c2, r, rfl, h1, h2, h3, h4, h5, h6⟩
      have HR := Lib.hid (And.intro h1 (And.intro (HFN.out.2.trans h2) (And.intro h3 (And.intro h4 (And.intro h5 h6)))))
      clear h1 h2 h3 h4 h5 h6
      go_wp2
      go_ret
      exact ⟨ao2, c2, r, rfl, HR.out.1, HR.out.2.1, HR.out.2.2.1, HR.out.2.2.2.1, HR.out.2.2.2.2.1, fun h => by have := HLV.out; omega, fun _ => HR.out.2.2.2.2.2⟩
theorem find_any (w : World) (v : Value) (bs : List Nat) (level : Int) (hT : TabM w) (h : BySl w v bs) (hb : Bs bs) (hl : bs.length ≤ 30000) :
    Calls Tryd.prog 8 #[v, .int .i64 level] w (FindTo bs level w) := by
  obtain ⟨ao, c, rfl⟩ := by_shape h
  exact find_some ao c bs level w hT h hb hl
/-- The program's functions, as the laws want them. -/
theorem prg : Prg TabM :=
  ⟨fun h hb => h.keep hb, fun w v bs level hT h hb hl => find_any w v bs level hT h hb (by omega), fun w ao c r limit h hl hf hlim => pExpand_any ao c r limit w h hl hf hlim,
    fun w v bs at_ dist most h hl ha h1 h2 hm => pSame_any w v bs at_ dist most h (by omega) ha h1 h2 hm⟩
end Go.Proofs.YtjjjchdocnoabaaDoor
