/-
  Write.
-/
import Derived.Test.YtflabomkgkojlaaM
namespace Go.Proofs.Ytflabomkgkojlaa
open Go.RowKit

/-- A field's bytes. -/
def wf (f : Fd) : List Nat := if f.k = 0 then le f.n 2 else if f.k = 1 then le f.n 4 else if f.k = 2 ∨ f.k = 3 then f.b else []
def wrt (l : List Fd) : List Nat := l.flatMap wf
theorem wrt_take {l : List Fd} {i : Nat} {f : Fd} (h : l[i]? = some f) : wrt (l.take (i + 1)) = wrt (l.take i) ++ wf f := by
  unfold wrt
  rw [List.take_add_one, h, List.flatMap_append]
  simp
theorem wrt_take_le (l : List Fd) (i : Nat) : (wrt (l.take i)).length ≤ (wrt l).length := by
  have : wrt l = wrt (l.take i) ++ wrt (l.drop i) := by
    unfold wrt
    rw [← List.flatMap_append, List.take_append_drop]
  rw [this, List.length_append]
  omega

theorem putn_I (n : Int) (size : Nat) (K : Int) (hK : K = size) (hsz : size ≤ 4) (va : Option Addr) (vc : Nat) (base : Nat) (xs : List Nat) (w : World) (hown : w.ownsRow base 5 1 (.slice va xs.length vc) xs.length (u8s xs)) (hb : base ≤ w.heap.size) (hl : xs.length ≤ 1000000000) :
    Calls Try.prog 24 #[.slice va xs.length vc, .int .i64 n, .int .i64 K] w (PutN base (.slice va xs.length vc) (xs ++ le n size) w) := by
  subst hK; exact putn_any n size hsz va vc base xs w hown hb hl

/-- A row of bytes of the call's own, answered. -/
def WrOk (bs : List Nat) (w : World) (e : Ending) (w' : World) : Prop := ∃ ao c, e = .returned (.slice ao bs.length c) ∧ w'.ownsRow w.heap.size 5 1 (.slice ao bs.length c) bs.length (u8s bs) ∧ Below w.heap.size w w'

set_option maxHeartbeats 1600000 in
set_option maxRecDepth 100000 in
theorem write_any (lo : Option Addr) (lc : Nat) (l : List Fe) (w : World) (h : Fs w lo l) (hm : l.length ≤ 1000000) (B : List Nat) (hB : wrt (l.map (·.f)) = B) (hBl : B.length ≤ 100000000) :
    Calls Try.prog 19 #[.slice lo l.length lc] w (WrOk B w) := by
  have HF := Lib.hid h
  have HW := Lib.hid hB
  clear h hB
  go_enter Try.func19, Try.ntmps19
  go_wp2
  go_loopw [3, 8] (fun vb vi wr => ∃ (i : Nat) (ao : Option Addr) (c : Nat) (acc : List Nat), i ≤ l.length ∧ vi = .int .i64 i ∧ vb = .slice ao acc.length c ∧ Hid (acc = wrt ((l.map (·.f)).take i)) ∧ wr.ownsRow w.heap.size 5 1 (.slice ao acc.length c) acc.length (u8s acc) ∧ Below w.heap.size w wr) (fun _ vi _ => l.length - (intOf vi).toNat)
  case atStart => exact ⟨0, none, 0, [], Nat.zero_le _, rfl, rfl, Lib.hid (by simp [wrt]), World.ownsRow_nil _ _ _ _, Below.refl _ _⟩
  case round =>
    obtain ⟨i, ao, c, acc, hi, rfl, rfl, hacc, hown, hbel⟩ := hrel
    have HO := Lib.hid hown
    have HB := Lib.hid hbel
    clear hown hbel
    have hal : acc.length ≤ 100000000 := by
      have := wrt_take_le (l.map (·.f)) i
      rw [← hacc.out, HW.out] at this
      omega
    by_cases hlt : i < l.length
    · have hii : (i : Int) < l.length := by omega
      have hx : l[i]? = some l[i] := List.getElem?_eq_getElem hlt
      obtain ⟨x, hxe⟩ : ∃ x, x = l[i] := ⟨_, rfl⟩
      rw [← hxe] at hx
      have hstep := wrt_take (l := l.map (·.f)) (i := i) (f := x.f) (by rw [List.getElem?_map, hx]; rfl)
      have hnl : (acc ++ wf x.f).length ≤ 100000000 := by
        have := wrt_take_le (l.map (·.f)) (i + 1)
        rw [hstep, ← hacc.out, HW.out] at this
        omega
      rw [← hacc.out] at hstep
      have HST := Lib.hid hstep
      obtain ⟨g, rfl, hF⟩ := (HF.out.below HB.out).get hx
      have c0 := hF.c0
      have c1 := hF.c1
      have c2 := hF.c2
      have hgb : g < wr.heap.size := World.block_lt_of_cell? wr _ c0
      have HSL := Lib.hid hF.sl
      obtain ⟨⟨k, n, b⟩, bo, bc⟩ := x
      simp only at c0 c1 c2 HSL HST hnl
      clear hF hx hxe hstep
      have HO1 : Hid (∀ W, Below wr.heap.size wr W → W.ownsRow w.heap.size 5 1 (.slice ao acc.length c) acc.length (u8s acc)) := Lib.hid fun W hW => ownsRow_below HO.out hW
      by_cases h0 : k = 0
      · subst h0
        have hwf : wf ⟨0, n, b⟩ = le n 2 := by simp [wf]
        rw [hwf] at HST hnl
        have K1 := Lib.hid fun (W : World) (hW : Below wr.heap.size wr W) => putn_I n 2 2 rfl (by omega) ao c w.heap.size acc W (HO1.out W hW) (by have := HB.out.size; have := hW.size; omega) (by omega)
        clear hwf
        go_wp2_with (go_at_call 24; (with_reducible refine (K1.out _ ((Below.refl _ _).alloc (Nat.le_refl _) _)).mono ?_); rintro e w3 ⟨ao3, c3, rfl, hA3⟩; have HA3 := Lib.hid hA3.alloc; clear hA3)
        have HB3 := Lib.hid (HB.out.trans (HA3.out.below (HO1.out _ (Below.refl _ _)) HB.out.size))
        go_roundw
        case rel => exact ⟨i + 1, ao3, c3, acc ++ le n 2, by omega, by go_num, by rw [List.length_append], Lib.hid HST.out.symm, HA3.out.own, HB3.out⟩
        case measure => simp [intOf]; omega
      by_cases h1 : k = 1
      · subst h1
        have hwf : wf ⟨1, n, b⟩ = le n 4 := by simp [wf]
        rw [hwf] at HST hnl
        have K1 := Lib.hid fun (W : World) (hW : Below wr.heap.size wr W) => putn_I n 4 4 rfl (by omega) ao c w.heap.size acc W (HO1.out W hW) (by have := HB.out.size; have := hW.size; omega) (by omega)
        clear hwf
        go_wp2_with (go_at_call 24; (with_reducible refine (K1.out _ ((Below.refl _ _).alloc (Nat.le_refl _) _)).mono ?_); rintro e w3 ⟨ao3, c3, rfl, hA3⟩; have HA3 := Lib.hid hA3.alloc; clear hA3)
        have HB3 := Lib.hid (HB.out.trans (HA3.out.below (HO1.out _ (Below.refl _ _)) HB.out.size))
        go_roundw
        case rel => exact ⟨i + 1, ao3, c3, acc ++ le n 4, by omega, by go_num, by rw [List.length_append], Lib.hid HST.out.symm, HA3.out.own, HB3.out⟩
        case measure => simp [intOf]; omega
      by_cases h23 : k = 2 ∨ k = 3
      · have hwf : wf ⟨k, n, b⟩ = b := by simp [wf, h0, h1, h23]
        rw [hwf] at HST hnl
        rw [List.length_append] at hnl
        have HC : Hid (∀ W, Below wr.heap.size wr W → CellsAt W (.slice bo b.length bc) b.length (u8s b)) := Lib.hid fun W hW => (HSL.out.below hW).cells
        clear hwf
        rcases h23 with rfl | rfl
        all_goals
          clear h0 h1
          go_wp2_with (at_builtin; refine wpList_append_x at22 rfl (.tmp 29) (.tmp 31) rfl w.heap.size (.slice ao acc.length c) (.slice bo b.length bc) acc.length b.length (u8s acc) (u8s b) rfl rfl (HO1.out _ ((Below.refl _ _).alloc (Nat.le_refl _) _)) (HC.out _ ((Below.refl _ _).alloc (Nat.le_refl _) _)) (by rw [u8s_len, Nat.mul_one]) (u8s_one b) (by have := HB.out.size; simp; omega) (by omega) (by omega) ?c2)
          case c2 =>
          intro ao3 c3 w3 hA3
          have hA4 := hA3.alloc
          rw [u8s_app, ← List.length_append] at hA4
          have HA3 := Lib.hid hA4
          rw [← List.length_append]
          clear hA3 hA4
          have HB3 := Lib.hid (HB.out.trans (HA3.out.below (HO1.out _ (Below.refl _ _)) HB.out.size))
          obtain ⟨N, hN⟩ : ∃ N, N = (acc ++ b).length := ⟨_, rfl⟩
          rw [← hN]
          have HN := Lib.hid hN
          clear hN
          go_wp2
          go_roundw
          case rel => exact ⟨i + 1, ao3, c3, acc ++ b, by omega, by go_num, by rw [HN.out], Lib.hid HST.out.symm, HA3.out.own, HB3.out⟩
          case measure => simp [intOf]; omega
      · have h2 : ¬ k = 2 := fun e => h23 (.inl e)
        have h3 : ¬ k = 3 := fun e => h23 (.inr e)
        have hwf : wf ⟨k, n, b⟩ = [] := by simp [wf, h0, h1, h2, h3]
        rw [hwf, List.append_nil] at HST
        have HO2 := Lib.hid (HO1.out _ ((Below.refl _ _).alloc (Nat.le_refl _) (.cells #[.int .i64 k, .int .i64 (n : Nat), .slice bo b.length bc] 48)))
        have HB2 := Lib.hid (HB.out.alloc HB.out.size (.cells #[.int .i64 k, .int .i64 (n : Nat), .slice bo b.length bc] 48))
        clear hwf h23
        go_wp2
        go_roundw
        case rel => exact ⟨i + 1, ao, c, acc, by omega, by go_num, rfl, Lib.hid HST.out.symm, HO2.out, HB2.out⟩
        case measure => simp [intOf]; omega
    · have hil : i = l.length := by omega
      have hacc' : acc = B := by rw [hacc.out, ← HW.out, List.take_of_length_le (by rw [List.length_map]; omega)]
      subst hacc'
      have HP : Hid (WrOk acc w (.returned (.slice ao acc.length c)) wr) := Lib.hid ⟨ao, c, rfl, HO.out, HB.out⟩
      subst hil
      clear hacc
      go_wp2
      go_ret
      exact HP.out
end Go.Proofs.Ytflabomkgkojlaa
