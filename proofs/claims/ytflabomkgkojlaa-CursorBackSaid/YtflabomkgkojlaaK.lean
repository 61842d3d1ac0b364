/-
  A field's size; a field made.
-/
import Derived.Test.YtflabomkgkojlaaJ
namespace Go.Proofs.Ytflabomkgkojlaa
open Go.RowKit

/-- Block g is just these cells. -/
def Blk (w : World) (g : Nat) (t : TypeId) (cs : Array Value) : Prop := w.heap[g]? = some (.cells cs t (0, 0))
theorem Blk.lt {w : World} {g : Nat} {t : TypeId} {cs : Array Value} (h : Blk w g t cs) : g < w.heap.size := by
  rcases Nat.lt_or_ge g w.heap.size with hlt | hge
  · exact hlt
  · rw [Blk, Array.getElem?_eq_none hge] at h; cases h
theorem Blk.cell {w : World} {g : Nat} {t : TypeId} {cs : Array Value} (h : Blk w g t cs) (i : Nat) : w.cell? ⟨g, i, none⟩ = cs[i]? := cell_of_row w g i cs t (0, 0) h
theorem Blk.free {w : World} {g : Nat} {t : TypeId} {cs : Array Value} (h : Blk w g t cs) (i : Nat) : w.frozen? ⟨g, i, none⟩ = false := by
  rw [Blk] at h
  simp [World.frozen?, h]
theorem Blk.made (w : World) (t : TypeId) (cs : Array Value) : Blk (w.alloc (.cells cs t)) w.heap.size t cs := by
  show (w.heap.push _)[w.heap.size]? = _
  simp
theorem Blk.touch {S : Nat → Prop} {w w' : World} {g : Nat} {t : TypeId} {cs : Array Value} (h : Blk w g t cs) (ht : Touch S w w') (hs : ¬ S g) : Blk w' g t cs :=
  (ht.block g h.lt hs).trans h
theorem Blk.below {w w' : World} {g : Nat} {t : TypeId} {cs : Array Value} (h : Blk w g t cs) (hb : Below w.heap.size w w') : Blk w' g t cs := (hb.block g h.lt).trans h

theorem told_no (ao : Option Addr) (c L back : Nat) (h : L < back) (w : World) :
    Calls Try.prog 37 #[.slice ao L c, .int .i64 back] w fun e w' => e = .returned (.tuple #[.int .i64 0, .bool false]) ∧ w = w' := by
  have h' : (L : Int) < back := by omega
  go_enter Try.func37, Try.ntmps37
  go_wp2
  go_ret2
  exact ⟨rfl, rfl⟩

/-- How many bytes a field has, behind those of a list. -/
def szf (k left : Int) (l : List Fd) (back : Nat) : Int × Bool :=
  if k = 0 then (2, true) else if k = 1 then (4, true) else if k = 2 then (if l.length < back then (0, false) else match l[l.length - back]? with
    | some f => ((f.n : Int), isN f.k)
    | none => (0, false)) else if k = 3 then (left, true) else (0, false)

theorem size_0 (l : List Fe) (k left : Int) (ao : Option Addr) (c back : Nat) (w : World) (hk : k ≠ 2) :
    Calls Try.prog 27 #[.int .i64 k, .int .i64 left, .slice ao l.length c, .int .i64 back] w fun e w' => e = .returned (.tuple #[.int .i64 (szf k left (l.map (·.f)) back).1, .bool (szf k left (l.map (·.f)) back).2]) ∧ w = w' := by
  by_cases h0 : k = 0
  · subst h0
    have H : szf 0 left (l.map (·.f)) back = (2, true) := by simp [szf]
    rw [H]
    clear H
    go_enter Try.func27, Try.ntmps27
    go_wp2
    go_ret2
    exact ⟨rfl, rfl⟩
  by_cases h1 : k = 1
  · subst h1
    have H : szf 1 left (l.map (·.f)) back = (4, true) := by simp [szf]
    rw [H]
    clear H
    go_enter Try.func27, Try.ntmps27
    go_wp2
    go_ret2
    exact ⟨rfl, rfl⟩
  by_cases h3 : k = 3
  · subst h3
    have H : szf 3 left (l.map (·.f)) back = (left, true) := by simp [szf]
    rw [H]
    clear H
    go_enter Try.func27, Try.ntmps27
    go_wp2
    go_ret2
    exact ⟨rfl, rfl⟩
  have H : szf k left (l.map (·.f)) back = (0, false) := by simp [szf, h0, h1, hk, h3]
  rw [H]
  clear H
  go_enter Try.func27, Try.ntmps27
  go_wp2
  go_ret2
  exact ⟨rfl, rfl⟩

theorem size_2 (l : List Fe) (left : Int) (ao : Option Addr) (c back : Nat) (hb : 1 ≤ back) (w : World) (h : Fs w ao l) (hm : l.length ≤ 1000000) :
    Calls Try.prog 27 #[.int .i64 2, .int .i64 left, .slice ao l.length c, .int .i64 back] w fun e w' => e = .returned (.tuple #[.int .i64 (szf 2 left (l.map (·.f)) back).1, .bool (szf 2 left (l.map (·.f)) back).2]) ∧ Below w.heap.size w w' := by
  by_cases hlt : l.length < back
  · have H : szf 2 left (l.map (·.f)) back = (0, false) := by simp [szf, hlt]
    rw [H]
    have K := Lib.hid (told_no ao c l.length back hlt w)
    clear H h
    go_enter Try.func27, Try.ntmps27
    go_wp2_with (go_at_call 37; (with_reducible refine K.out.mono ?_); rintro e w' ⟨rfl, rfl⟩)
    go_ret2
    exact ⟨rfl, Below.refl _ _⟩
  · have hlen : l.length - back < l.length := by omega
    have hx : l[l.length - back]? = some l[l.length - back] := List.getElem?_eq_getElem hlen
    have H : szf 2 left (l.map (·.f)) back = ((l[l.length - back].f.n : Int), isN l[l.length - back].f.k) := by
      have : (l.map (·.f))[(l.map (·.f)).length - back]? = some l[l.length - back].f := by rw [List.length_map, List.getElem?_map, hx]; rfl
      unfold szf
      rw [if_neg (by omega), if_neg (by omega), if_pos rfl, if_neg (by rw [List.length_map]; exact hlt), this]
    rw [H]
    have K := told_ok ao c l back (l.length - back) l[l.length - back] (by omega) hx w h hm
    obtain ⟨n, hn⟩ : ∃ n, n = l[l.length - back].f.n := ⟨_, rfl⟩
    obtain ⟨v, hv⟩ : ∃ v, v = isN l[l.length - back].f.k := ⟨_, rfl⟩
    rw [← hn, ← hv] at K ⊢
    have K := Lib.hid K
    clear H h hn hv hx hlt
    go_enter Try.func27, Try.ntmps27
    go_wp2_with (go_at_call 37; (with_reducible refine K.out.mono ?_); rintro e w' ⟨rfl, hb1⟩; have HB := Lib.hid hb1; clear hb1)
    go_ret2
    exact ⟨rfl, HB.out⟩

theorem size_any (l : List Fe) (k left : Int) (ao : Option Addr) (c back : Nat) (hb : k = 2 → 1 ≤ back) (w : World) (h : Fs w ao l) (hm : l.length ≤ 1000000) (z : Int) (ok : Bool) (hz : szf k left (l.map (·.f)) back = (z, ok)) :
    Calls Try.prog 27 #[.int .i64 k, .int .i64 left, .slice ao l.length c, .int .i64 back] w fun e w' => e = .returned (.tuple #[.int .i64 z, .bool ok]) ∧ Below w.heap.size w w' := by
  by_cases hk : k = 2
  · subst hk
    have K := size_2 l left ao c back (hb rfl) w h hm
    rw [hz] at K
    exact K
  · have K := size_0 l k left ao c back w hk
    rw [hz] at K
    exact K.mono fun e w' ⟨he, hw⟩ => ⟨he, hw ▸ Below.refl _ _⟩

/-! ### made -/
theorem made_num (k : Int) (hk : isN k = true) (ao : Option Addr) (c : Nat) (xs : List Nat) (w : World) (h : Sl w ao c xs) (hl : xs.length ≤ 4) :
    Calls Try.prog 28 #[.int .i64 k, .slice ao xs.length c] w fun e w' => e = .returned (.agg #[.int .i64 k, .int .i64 (num xs : Nat), .slice none 0 0]) ∧ Below w.heap.size w w' := by
  have K1 := Lib.hid fun W => isnum_any k W
  rw [hk] at K1
  have K2 := Lib.hid fun (W : World) (hb : Below w.heap.size w W) => number_any ao c xs W (h.below hb) hl
  obtain ⟨z, hz⟩ : ∃ z, z = num xs := ⟨_, rfl⟩
  rw [← hz] at K2 ⊢
  have HB0 := Lib.hid ((Below.refl w.heap.size w).alloc (Nat.le_refl _) (.cells #[.int .i64 0, .int .i64 0, .slice none 0 0] 48))
  clear h hz hk
  go_enter Try.func28, Try.ntmps28
  go_wp2_with (first
    | (go_at_call 38; (with_reducible refine (K1.out _).mono ?_); rintro e w' ⟨rfl, rfl⟩)
    | (go_at_call 21; (with_reducible refine (K2.out _ HB0.out).mono ?_); rintro e w' ⟨rfl, rfl⟩))
  refine bodyPost_ret (v := .agg #[.int .i64 k, .int .i64 (z : Nat), .slice none 0 0]) (by simp [results, Try.results28, go_sem]) rfl ⟨rfl, ?_⟩
  exact (Below.refl _ _).alloc (Nat.le_refl _) _

def MadeB (k : Int) (xs : List Nat) (w : World) (e : Ending) (w' : World) : Prop := ∃ ao c, e = .returned (.agg #[.int .i64 k, .int .i64 0, .slice ao xs.length c]) ∧ Fresh w.heap.size w' ao c xs ∧ Below w.heap.size w w'

theorem made_bytes (k : Int) (hk : isN k = false) (ao : Option Addr) (c : Nat) (xs : List Nat) (w : World) (h : Sl w ao c xs) (hl : xs.length ≤ 1000000000) :
    Calls Try.prog 28 #[.int .i64 k, .slice ao xs.length c] w (MadeB k xs w) := by
  have K1 := Lib.hid fun W => isnum_any k W
  rw [hk] at K1
  have K2 := Lib.hid fun (W : World) (hb : Below w.heap.size w W) => clone_any ao c xs W (h.below hb) hl
  have HB0 := Lib.hid ((Below.refl w.heap.size w).alloc (Nat.le_refl _) (.cells #[.int .i64 0, .int .i64 0, .slice none 0 0] 48))
  clear h hk
  go_enter Try.func28, Try.ntmps28
  go_wp2_with (first
    | (go_at_call 38; (with_reducible refine (K1.out _).mono ?_); rintro e w' ⟨rfl, rfl⟩)
    | (go_at_call 22; (with_reducible refine (K2.out _ HB0.out).mono ?_); rintro e w2 ⟨ao2, c2, rfl, hF, hb2⟩; have HF := Lib.hid hF; have HB2 := Lib.hid (HB0.out.trans (hb2.mono (by simp))); have hk := (Blk.made w 48 #[.int .i64 0, .int .i64 0, .slice none 0 0]).below hb2; have k0 := hk.cell 0; have k1 := hk.cell 1; have k2 := hk.cell 2; have f0 := hk.free 0; have f1 := hk.free 1; have f2 := hk.free 2; clear hF hb2 hk))
  obtain ⟨g, hg⟩ : ∃ g, g = w.heap.size := ⟨_, rfl⟩
  have HT : Hid (Fresh w.heap.size (((w2.setCell ⟨w.heap.size, 0, none⟩ (.int .i64 k)).setCell ⟨w.heap.size, 1, none⟩ (.int .i64 0)).setCell ⟨w.heap.size, 2, none⟩ (.slice ao2 xs.length c2)) ao2 c2 xs) := Lib.hid (by
    obtain ⟨h1, h2⟩ := HF.out
    simp at h2
    refine ⟨h1.touch ((((Touch.refl (fun k => k = w.heap.size) w2).setCell _ _ (.inl rfl)).setCell _ _ (.inl rfl)).setCell _ _ (.inl rfl)) fun _ ad ha hs => ?_, fun ad ha => ?_⟩
    · have := h2 ad ha; omega
    · have := h2 ad ha; omega)
  refine bodyPost_ret (v := .agg #[.int .i64 k, .int .i64 0, .slice ao2 xs.length c2]) (by simp [results, Try.results28, go_sem, k0, k1, k2]) rfl ⟨ao2, c2, rfl, HT.out, ?_⟩
  exact (((HB2.out.setCell (Nat.le_refl _) _).setCell (Nat.le_refl _) _).setCell (Nat.le_refl _) _)
end Go.Proofs.Ytflabomkgkojlaa
