/-
  singles: each byte as a token.
-/
import Derived.Test.YtjjjchdocnoabaaDoorFf
namespace Go.Proofs.YtjjjchdocnoabaaDoor
open Go.RowKit Go.Maps
set_option maxRecDepth 100000

/-- The cells, when the first i bytes are laid. -/
def sg (bs : List Nat) (i j : Nat) : Value := if j % 3 = 0 then .int .u8 ((if j / 3 < i then bs.getD (j / 3) 0 else 0 : Nat) : Int) else .int .i64 0
theorem sg_start (bs : List Nat) (n : Nat) : va (n * 3) (fun i => (Value.agg #[.int .u8 0, .int .i64 0, .int .i64 0]).cells[i % (Value.agg #[.int .u8 0, .int .i64 0, .int .i64 0]).cells.size]!) = va (n * 3) (sg bs 0) := by
  refine va_congr fun i _ => ?_
  have hc : (Value.agg #[.int .u8 0, .int .i64 0, .int .i64 0]).cells = #[.int .u8 0, .int .i64 0, .int .i64 0] := rfl
  rw [hc]
  unfold sg
  have h3 : i % 3 = 0 ∨ i % 3 = 1 ∨ i % 3 = 2 := by omega
  rcases h3 with h | h | h <;> simp [h]
theorem sg_step (bs : List Nat) (n i : Nat) : (va n (sg bs i)).setIfInBounds (i * 3) (.int .u8 (bs.getD i 0 : Nat)) = va n (sg bs (i + 1)) := by
  rw [va_set]
  refine va_congr fun j _ => ?_
  split
  · rename_i h
    subst h
    unfold sg
    rw [if_pos (by omega), Nat.mul_div_cancel _ (by omega), if_pos (Nat.lt_succ_self _)]
  · rename_i h
    unfold sg
    split
    · have : j / 3 ≠ i := by omega
      by_cases hj : j / 3 < i
      · rw [if_pos hj, if_pos (by omega)]
      · rw [if_neg hj, if_neg (by omega)]
    · rfl
/-- Bytes as tokens. -/
def lits (bs : List Nat) : List M.Tok := bs.map fun x => ⟨x, 0, 0⟩
theorem lits_ex (bs : List Nat) : ∀ l, M.ex (lits bs) l = some (l ++ bs) := by
  induction bs with
  | nil => intro l; rw [List.append_nil]; rfl
  | cons x bs ih =>
    intro l
    rw [show lits (x :: bs) = ⟨x, 0, 0⟩ :: lits bs from rfl, M.ex, if_pos ⟨.inl ⟨rfl, rfl⟩, Nat.zero_le _⟩, show M.one ⟨x, 0, 0⟩ l = l ++ [x] from by unfold M.one; rw [if_pos rfl], ih]
    simp
theorem lits_cells (bs : List Nat) (j : Nat) (v : Value) (h : (tcl (lits bs))[j]? = some v) : v = sg bs bs.length j ∧ j < bs.length * 3 := by
  have hj : j < bs.length * 3 := by
    have := (List.getElem?_eq_some_iff.1 h).1
    rw [tcl_len] at this
    simpa [lits] using this
  refine ⟨?_, hj⟩
  obtain ⟨h1, h2, h3⟩ := tcl_at (lits bs) (j / 3) (by simp [lits]; omega)
  have hk : tk (lits bs) (j / 3) = ⟨bs.getD (j / 3) 0, 0, 0⟩ := by
    unfold tk lits
    have : j / 3 < bs.length := by omega
    simp [List.getD_eq_getElem?_getD, List.getElem?_eq_getElem this]
  rw [hk] at h1 h2 h3
  have hm : j % 3 = 0 ∨ j % 3 = 1 ∨ j % 3 = 2 := by omega
  unfold sg
  rcases hm with e | e | e
  · rw [show j / 3 * 3 = j by omega, h] at h1
    cases h1
    rw [if_pos e, if_pos (by omega)]
  · rw [show j / 3 * 3 + 1 = j by omega, h] at h2
    cases h2
    rw [if_neg (by omega)]; rfl
  · rw [show j / 3 * 3 + 2 = j by omega, h] at h3
    cases h3
    rw [if_neg (by omega)]; rfl

set_option maxHeartbeats 1600000 in
theorem singles_any (v : Value) (bs : List Nat) (w : World) (h : BySl w v bs) (hb : Bs bs) (hl : bs.length ≤ 30000) :
    Calls Tryd.prog 15 #[v] w fun e w' => ∃ ao c, e = .returned (.slice ao (lits bs).length c) ∧ KS w' ao (lits bs) ∧ Below w.heap.size w w' ∧ ((lits bs).length ≤ c ∧ (ao = none → c = 0)) := by
  obtain ⟨ao, c, rfl⟩ := by_shape h
  have HS := Lib.hid h
  have HB := Lib.hid hb
  obtain ⟨L, hL⟩ : ∃ L, L = bs.length := ⟨_, rfl⟩
  have HL := Lib.hid hL
  rw [← hL] at hl ⊢
  obtain ⟨g, hg⟩ : ∃ g, g = w.heap.size := ⟨_, rfl⟩
  have HG := Lib.hid hg
  clear h hb hL
  go_enter Tryd.func15, Tryd.ntmps15
  go_wp2_with (refine wpList_make_z rfl 25 _ _ rfl 34 (.agg #[.int .u8 0, .int .i64 0, .int .i64 0]) 3 24 L Tryd.underlying25 (by kernel_rfl) _ _ (L : Int) (L : Int) rfl rfl rfl rfl (by omega) (by omega) ?_; intro W1 hb1 ht1 hs1; rw [← hg] at hb1 ⊢; rw [sg_start bs L] at hb1; have HK1 := Lib.hid hb1; have HT1 := Lib.hid ht1; clear hb1 ht1 hs1 hg)
  go_loopg [11] (L + 1) (fun gm v11 wr => ∃ i : Nat, i ≤ L ∧ L + 1 - i ≤ gm ∧ v11 = .int .i64 (i : Nat) ∧ Hid (Blk wr g 34 (va (L * 3) (sg bs i)) ∧ Below w.heap.size w wr))
  case atStart => exact ⟨0, Nat.zero_le _, Nat.le_refl _, rfl, Lib.hid ⟨HK1.out, HT1.out.none_below⟩⟩
  case round =>
    clear HK1 HT1
    obtain ⟨i, hi, hgm, rfl, HX⟩ := hrel
    by_cases hlt : i < L
    · have hlt' : (i : Int) < L := by omega
      obtain ⟨bk, off, rfl, k1⟩ := by_cell (by_on HS.out HX.out.2) i (by rw [← HL.out]; exact hlt)
      obtain ⟨y, hy⟩ : ∃ y, y = bs.getD i 0 := ⟨_, rfl⟩
      rw [← hy] at k1
      have HY := Lib.hid hy
      have x0 := (HX.out.1.cell (i * 3)).trans (va_at _ _ (i * 3) (by omega))
      obtain ⟨z, hz⟩ : ∃ z, sg bs i (i * 3) = .int .u8 z := by unfold sg; rw [if_pos (by omega)]; exact ⟨_, rfl⟩
      rw [hz] at x0
      have f0 := HX.out.1.free (i * 3)
      have e1 : IntKind.i64.wrap ((i : Int) * 3) = (i : Int) * 3 := by rw [IntKind.wrap_i64]; omega
      clear hy hz
      go_wp2
      go_roundg (L + 1 - (i + 1))
      case measure => omega
      case rel =>
        refine ⟨i + 1, by omega, Nat.le_refl _, by simp, Lib.hid ⟨?_, ?_⟩⟩
        · have := HX.out.1.setCell (i * 3) (.int .u8 (y : Nat))
          rw [HY.out, sg_step] at this
          rw [HY.out]
          exact this
        · have ht : Touch (fun k => k = g) wr (wr.setCell ⟨g, i * 3, none⟩ (.int .u8 (y : Nat))) := (Touch.refl _ wr).setCell _ _ (.inl rfl)
          exact HX.out.2.trans (ht.below HX.out.2.size fun k hk => by rw [hk, HG.out]; exact Nat.le_refl _)
    · obtain rfl : i = L := by omega
      go_wp2
      go_ret
      have hll : (lits bs).length = i := by rw [HL.out]; simp [lits]
      rw [hll]
      refine ⟨_, _, rfl, .inr ⟨g, 0, rfl, fun j u hu => ?_⟩, HX.out.2, by exact ⟨Nat.le_refl _, fun e => by cases e⟩⟩
      obtain ⟨rfl, hj⟩ := lits_cells bs j u hu
      rw [Nat.zero_add, HX.out.1.cell, va_at _ _ _ (by rw [HL.out]; exact hj), HL.out]
end Go.Proofs.YtjjjchdocnoabaaDoor
