/-
  The law's first look: its own bytes, read and written.
-/
import Derived.Test.YtflabomkgkojlaaP
import Derived.Lib.SlBytesConst
namespace Go.Proofs.Ytflabomkgkojlaa
open Go.RowKit

theorem made_sl (w : World) (bs : List Nat) (cs : Array Value) (fr : Nat × Nat) (hcs : cs.toList = u8s bs) (hb : Bs bs) (hl : bs.length ≤ maxLen) : Sl (w.alloc (.cells cs 5 fr)) (some ⟨w.heap.size, 0, none⟩) bs.length bs := by
  refine ⟨.inr ⟨w.heap.size, 0, rfl, fun j hj => ?_⟩, Nat.le_refl _, hl, (fun e => by cases e), hb⟩
  rw [Nat.zero_add, cell_of_row (w.alloc _) w.heap.size j cs 5 fr (by show (w.heap.push _)[w.heap.size]? = _; simp), ← Array.getElem?_toList, hcs, u8s_at bs j hj]
def kv (ks : List Int) : List Value := ks.map fun k => Value.int .i64 k
theorem made_ks (w : World) (ks : List Int) (cs : Array Value) (e : TypeId) (fr : Nat × Nat) (hcs : cs.toList = kv ks) : KSrc (w.alloc (.cells cs e fr)) (some ⟨w.heap.size, 0, none⟩) ks := by
  refine .inr ⟨w.heap.size, 0, rfl, fun j hj => ?_⟩
  rw [Nat.zero_add, cell_of_row (w.alloc _) w.heap.size j cs e fr (by show (w.heap.push _)[w.heap.size]? = _; simp), ← Array.getElem?_toList, hcs]
  simp [kv, hj, List.getD]

def bts : List Nat := [2, 0, 1, 0, 65, 66, 67, 80, 75, 5, 6]
theorem bts_bs : Bs bts := by unfold Bs bts; decide
theorem run_bts : run bts (cnt [0, 0, 2, 2, 3]) [0, 0, 2, 2, 3] 0 [] = some ([⟨0, 2, []⟩, ⟨0, 1, []⟩, ⟨2, 0, [65, 66]⟩, ⟨2, 0, [67]⟩, ⟨3, 0, [80, 75, 5, 6]⟩], 11) := by kernel_rfl
theorem run_no : run bts (cnt [2]) [2] 0 [] = none := by kernel_rfl
theorem wrt_bts : wrt [⟨0, 2, []⟩, ⟨0, 1, []⟩, ⟨2, 0, [65, 66]⟩, ⟨2, 0, [67]⟩, ⟨3, 0, [80, 75, 5, 6]⟩] = bts := by kernel_rfl

/-- The state of the look. -/
structure Al (w : World) (h : Nat) (g : Nat) (a2 a3 : Option Addr) (c2 c3 : Nat) (W : World) : Prop where
  b : Sl W (some ⟨h, 0, none⟩) 11 bts
  n0 : W.cell? ⟨g, 1, none⟩ = some (.int .i64 2)
  s2 : W.cell? ⟨g, 8, none⟩ = some (.slice a2 2 c2)
  s3 : W.cell? ⟨g, 11, none⟩ = some (.slice a3 1 c3)
  l2 : Sl W a2 c2 [65, 66]
  l3 : Sl W a3 c3 [67]
  mx : MaxL W
  below : Below w.heap.size w W

theorem Al.grow {w W W' : World} {h g : Nat} {a2 a3 : Option Addr} {c2 c3 : Nat} (a : Al w h g a2 a3 c2 c3 W) (hb : Below W.heap.size W W') : Al w h g a2 a3 c2 c3 W' :=
  ⟨a.b.below hb, (hb.cell (World.block_lt_of_cell? W _ a.n0)).trans a.n0, (hb.cell (World.block_lt_of_cell? W _ a.s2)).trans a.s2, (hb.cell (World.block_lt_of_cell? W _ a.s3)).trans a.s3, a.l2.below hb, a.l3.below hb, a.mx.below hb, a.below.trans (hb.mono a.below.size)⟩

/-- The first reading. -/
theorem look_read (w W : World) (h k : Nat) (hb : Sl W (some ⟨h, 0, none⟩) 11 bts) (hk : KSrc W (some ⟨k, 0, none⟩) [0, 0, 2, 2, 3]) (hM : MaxL W) (hW : Below w.heap.size w W) :
    Calls Try.prog 16 #[.slice (some ⟨h, 0, none⟩) 11 11, .int .i64 0, .slice (some ⟨k, 0, none⟩) 5 5] W fun e w' => ∃ g c a2 a3 c2 c3 l, e = .returned (.tuple #[.slice (some ⟨g, 0, none⟩) 5 c, .int .i64 11, .bool true]) ∧ Al w h g a2 a3 c2 c3 w' ∧ Fs w' (some ⟨g, 0, none⟩) l ∧ l.length = 5 ∧ wrt (l.map (·.f)) = bts := by
  have K := read_any (some ⟨h, 0, none⟩) 11 bts 0 (some ⟨k, 0, none⟩) 5 [0, 0, 2, 2, 3] W hb hk (by decide) (by decide) (by decide) _ run_bts
  refine K.mono ?_
  rintro e w' ⟨lo, lc, l, hl, he, hF, hbl⟩
  obtain ⟨x0, x1, x2, x3, x4, rfl⟩ : ∃ x0 x1 x2 x3 x4, l = [x0, x1, x2, x3, x4] := by
    have hlen : l.length = 5 := by
      have := congrArg List.length hl
      simpa using this
    match l, hlen with
    | [x0, x1, x2, x3, x4], _ => exact ⟨x0, x1, x2, x3, x4, rfl⟩
  have hl' := hl
  simp only [List.map_cons, List.map_nil, List.cons.injEq, and_true] at hl
  obtain ⟨e0, e1, e2, e3, e4⟩ := hl
  obtain ⟨g, rfl, f0⟩ := hF.get (i := 0) (x := x0) rfl
  obtain ⟨g2, eg, f2⟩ := hF.get (i := 2) (x := x2) rfl
  simp only [Option.some.injEq, Addr.mk.injEq, and_true] at eg
  subst eg
  obtain ⟨g3, eg, f3⟩ := hF.get (i := 3) (x := x3) rfl
  simp only [Option.some.injEq, Addr.mk.injEq, and_true] at eg
  subst eg
  have c1 := f0.c1
  have d2 := f2.c2
  have d3 := f3.c2
  have s2 := f2.sl
  have s3 := f3.sl
  rw [e0] at c1
  rw [e2] at d2 s2
  rw [e3] at d3 s3
  refine ⟨g, lc, x2.ao, x3.ao, x2.c, x3.c, _, he, ⟨hb.below hbl, c1, d2, d3, s2, s3, hM.below hbl, hW.trans (hbl.mono hW.size)⟩, hF, rfl, ?_⟩
  rw [hl']
  exact wrt_bts

theorem look_u32 (W : World) (h : Nat) (hb : Sl W (some ⟨h, 0, none⟩) 11 bts) :
    Calls Try.prog 10 #[.slice (some ⟨h, 0, none⟩) 11 11, .int .i64 7] W fun e w' => e = .returned (.tuple #[.int .i64 101010256, .bool true]) ∧ W = w' := u32_ok (some ⟨h, 0, none⟩) 11 bts 7 W hb (by decide)
theorem look_no (W : World) (h k : Nat) (hb : Sl W (some ⟨h, 0, none⟩) 11 bts) (hk : KSrc W (some ⟨k, 0, none⟩) [2]) :
    Calls Try.prog 16 #[.slice (some ⟨h, 0, none⟩) 11 11, .int .i64 0, .slice (some ⟨k, 0, none⟩) 1 1] W fun e w' => e = .returned (.tuple #[.slice none 0 0, .int .i64 0, .bool false]) ∧ Below W.heap.size W w' :=
  read_any (some ⟨h, 0, none⟩) 11 bts 0 (some ⟨k, 0, none⟩) 1 [2] W hb hk (by decide) (by decide) (by decide) none run_no
theorem look_same (n : Nat) (xs : List Nat) (hn : xs.length = n) (a1 a2 : Option Addr) (c1 c2 : Nat) (W : World) (h1 : Sl W a1 c1 xs) (h2 : Sl W a2 c2 xs) :
    Calls Try.prog 12 #[.slice a1 n c1, .slice a2 n c2] W fun e w' => e = .returned (.bool true) ∧ Drew W w' := by
  subst hn; exact same_eq a1 a2 c1 c2 xs W h1 h2
theorem look_last (W : World) (h : Nat) (hb : Sl W (some ⟨h, 0, none⟩) 11 bts) :
    Calls Try.prog 15 #[.slice (some ⟨h, 0, none⟩) 11 11, .int .u32 101010256] W fun e w' => e = .returned (.int .i64 7) ∧ Below W.heap.size W w' :=
  last_any (some ⟨h, 0, none⟩) 11 bts 101010256 (by decide) 7 (.inr ⟨7, rfl, by decide, fun j hj hc => by
    have h1 := hc.1
    have h2 : bts.length = 11 := rfl
    omega⟩) W hb (by decide)
theorem look_first (W : World) (h : Nat) (hb : Sl W (some ⟨h, 0, none⟩) 11 bts) (hM : MaxL W) :
    Calls Try.prog 13 #[.slice (some ⟨h, 0, none⟩) 11 11, .int .i64 8, .int .u32 101010256] W fun e w' => e = .returned (.int .i64 (-1)) ∧ Below W.heap.size W w' :=
  first_any (some ⟨h, 0, none⟩) 11 bts 8 8 (by decide) 101010256 (by decide) (-1) (.inl ⟨rfl, fun j hj hc => by
    have h1 := hc.1
    have h2 : bts.length = 11 := rfl
    omega⟩) W hb hM (by decide)
theorem drew_below {W W' : World} (h : Drew W W') : Below W.heap.size W W' := h.below (Below.refl _ _)

/-- .. and what was written. -/
structure Am (w : World) (h : Nat) (g : Nat) (a2 a3 : Option Addr) (c2 c3 : Nat) (co : Option Addr) (cc : Nat) (W : World) : Prop where
  a : Al w h g a2 a3 c2 c3 W
  c : Sl W co cc bts
theorem Am.grow {w W W' : World} {h g : Nat} {a2 a3 co : Option Addr} {c2 c3 cc : Nat} (a : Am w h g a2 a3 c2 c3 co cc W) (hb : Below W.heap.size W W') : Am w h g a2 a3 c2 c3 co cc W' := ⟨a.a.grow hb, a.c.below hb⟩

set_option maxHeartbeats 3200000 in
set_option maxRecDepth 100000 in
theorem alive_any (w : World) (hM : MaxL w) :
    Calls Try.prog 7 #[] w fun e w' => e = .returned (.bool true) ∧ Below w.heap.size w w' := by
  have HM := Lib.hid hM
  clear hM
  have hc := fun (w : World) (C : Array Value) (n c : Nat) => Lib.run_convert_bytes_const (P := Try.prog) w 22 5 C n c Try.underlying22 Try.underlying5
  go_enter Try.func7, Try.ntmps7
  go_upto_region 2 with fail
  obtain ⟨h, hh⟩ : ∃ h, h = w.heap.size := ⟨_, rfl⟩
  have HA0 := Lib.hid (made_sl w bts #[.int .u8 2, .int .u8 0, .int .u8 1, .int .u8 0, .int .u8 65, .int .u8 66, .int .u8 67, .int .u8 80, .int .u8 75, .int .u8 5, .int .u8 6] (0, 0) rfl bts_bs (by decide))
  have HB0 := Lib.hid ((Below.refl _ w).alloc (Nat.le_refl _) (.cells #[.int .u8 2, .int .u8 0, .int .u8 1, .int .u8 0, .int .u8 65, .int .u8 66, .int .u8 67, .int .u8 80, .int .u8 75, .int .u8 5, .int .u8 6] 5))
  rw [← hh] at HA0 ⊢
  generalize w.alloc (.cells #[.int .u8 2, .int .u8 0, .int .u8 1, .int .u8 0, .int .u8 65, .int .u8 66, .int .u8 67, .int .u8 80, .int .u8 75, .int .u8 5, .int .u8 6] 5) = W0 at HA0 HB0 ⊢
  clear hh
  have hb1 : Below W0.heap.size W0 (W0.alloc (.cells #[.int .i64 0, .int .i64 0, .int .i64 2, .int .i64 2, .int .i64 3] 36)) := (Below.refl _ _).alloc (Nat.le_refl _) _
  have K16 := Lib.hid (look_read w (W0.alloc (.cells #[.int .i64 0, .int .i64 0, .int .i64 2, .int .i64 2, .int .i64 3] 36)) h W0.heap.size (HA0.out.below hb1) (made_ks W0 [0, 0, 2, 2, 3] _ 36 (0, 0) rfl) (HM.out.below (HB0.out.trans (hb1.mono HB0.out.size))) (HB0.out.trans (hb1.mono HB0.out.size)))
  clear hb1 HA0 HB0
  go_wp2_with fail
  refine K16.out.mono ?_
  rintro e W1 ⟨g, c, a2, a3, c2, c3, l, rfl, hA, hF, hl5, hwr⟩
  have HA := Lib.hid hA
  have K19 := write_any (some ⟨g, 0, none⟩) c l W1 hF (by omega) bts hwr (by decide)
  rw [hl5] at K19
  have K19 := Lib.hid K19
  clear hA hF hl5 hwr K16
  go_wp2_with fail
  refine (look_u32 W1 h HA.out.b).mono ?_
  rintro e w' ⟨rfl, rfl⟩
  go_wp2_with fail
  refine K19.out.mono ?_
  rintro e W2 ⟨co, cc, rfl, hown, hb2⟩
  have HC : Hid (Am w h g a2 a3 c2 c3 co cc W2) := Lib.hid ⟨HA.out.grow hb2, own_sl hown bts_bs⟩
  clear hown hb2 HA K19
  have hb3 : Below W2.heap.size W2 (W2.alloc (.cells #[.int .i64 2] 36)) := (Below.refl _ _).alloc (Nat.le_refl _) _
  have K16 := Lib.hid (look_no (W2.alloc (.cells #[.int .i64 2] 36)) h W2.heap.size (HC.out.a.b.below hb3) (made_ks W2 [2] _ 36 (0, 0) rfl))
  have HC2 := Lib.hid (HC.out.grow hb3)
  clear hb3 HC
  go_wp2_with fail
  refine K16.out.mono ?_
  rintro e W3 ⟨rfl, hb4⟩
  have HC := Lib.hid (HC2.out.grow hb4)
  clear hb4 HC2 K16
  have n0 := HC.out.a.n0
  have s2 := HC.out.a.s2
  have hb5 : Below W3.heap.size W3 (W3.alloc (.cells #[.int .u8 65, .int .u8 66] 5 (2, 3))) := (Below.refl _ _).alloc (Nat.le_refl _) _
  have HC5 := Lib.hid (HC.out.grow hb5)
  have K12 := Lib.hid (look_same 2 [65, 66] rfl a2 (some ⟨W3.heap.size, 0, none⟩) c2 2 _ HC5.out.a.l2 (made_sl W3 [65, 66] #[.int .u8 65, .int .u8 66] (2, 3) rfl (by unfold Bs; decide) (by decide)))
  clear hb5 HC
  go_wp2_with fail
  refine K12.out.mono ?_
  rintro e W4 ⟨rfl, hd⟩
  have HC := Lib.hid (HC5.out.grow (drew_below hd))
  clear hd HC5 K12 n0 s2
  have s3 := HC.out.a.s3
  have hb5 : Below W4.heap.size W4 (W4.alloc (.cells #[.int .u8 67] 5 (1, 2))) := (Below.refl _ _).alloc (Nat.le_refl _) _
  have HC5 := Lib.hid (HC.out.grow hb5)
  have K12 := Lib.hid (look_same 1 [67] rfl a3 (some ⟨W4.heap.size, 0, none⟩) c3 1 _ HC5.out.a.l3 (made_sl W4 [67] #[.int .u8 67] (1, 2) rfl (by unfold Bs; decide) (by decide)))
  clear hb5 HC
  go_wp2_with fail
  refine K12.out.mono ?_
  rintro e W5 ⟨rfl, hd⟩
  have HC := Lib.hid (HC5.out.grow (drew_below hd))
  clear hd HC5 K12 s3 hc
  go_wp2_with fail
  refine (look_same 11 bts rfl co (some ⟨h, 0, none⟩) cc 11 _ HC.out.c HC.out.a.b).mono ?_
  rintro e W6 ⟨rfl, hd⟩
  have HC6 := Lib.hid (HC.out.grow (drew_below hd))
  clear hd HC
  go_wp2_with fail
  refine (look_last _ h HC6.out.a.b).mono ?_
  rintro e W7 ⟨rfl, hb⟩
  have HC := Lib.hid (HC6.out.grow hb)
  clear hb HC6
  go_wp2_with fail
  refine (look_first _ h HC.out.a.b HC.out.a.mx).mono ?_
  rintro e W8 ⟨rfl, hb⟩
  have HC8 := Lib.hid (HC.out.grow hb)
  clear hb HC
  go_wp2_with fail
  go_ret
  exact ⟨rfl, HC8.out.a.below⟩
end Go.Proofs.Ytflabomkgkojlaa
