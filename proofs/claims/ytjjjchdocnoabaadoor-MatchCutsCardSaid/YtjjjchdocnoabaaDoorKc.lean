
/-
  of; the reference's Expand.
-/
import Derived.Test.YtjjjchdocnoabaaDoorKb
namespace Go.Proofs.YtjjjchdocnoabaaDoor
open Go.RowKit
set_option maxRecDepth 100000

theorem asize (w : World) (o : Obj) : (w.alloc o).heap.size = w.heap.size + 1 := Array.size_push _
theorem tcl_single (t : M.Tok) : tcl [t] = [.int .u8 (t.lit : Nat), .int .i64 (t.len : Nat), .int .i64 (t.dist : Nat)] := rfl
theorem tok_one (t : M.Tok) (u : Value) (h : u ∈ [Value.int .u8 (t.lit : Nat), .int .i64 (t.len : Nat), .int .i64 (t.dist : Nat)]) : u.oneCell' = true := by
  simp at h
  rcases h with rfl | rfl | rfl <;> rfl

theorem step_append_g {t e : Nat} {z : Value} {size bytes : Nat} (T : AT t e z size bytes) {ops : Array Oper} {o : Oper} {a : Act} {w : World} {K : Act → World → Prop} {Q : Exit → Act → World → Prop} {E : Prop}
    (hg : o.guard = none) (s x : Operand) (hop : o.op = Op.call { callee := Callee.builtin Builtin.append, args := #[s, x], argTypes := #[t, t] })
    (base : Nat) (v sv : Value) (n m : Nat) (xs ys : List Value) (hs : a.eval s = v) (hx : a.eval x = sv) (hown : w.ownsRow base e size v n xs) (hsrc : CellsAt w sv m ys)
    (hyl : ys.length = m * size) (h1 : ∀ u ∈ ys, u.oneCell' = true) (hbase : base ≤ w.heap.size) (hl : n + m ≤ 140737488355328) (hby : (n + m) * bytes ≤ 140737488355328)
    (hK : ∀ ao c w', Apg w base e size v (n + m) (xs ++ ys) (.slice ao (n + m) c) w' → K (a.put o.dst (.slice ao (n + m) c)) w') :
    if Region.wanted o (yielded ops a.tmps) = true then Oper.wp Tryd.prog o a w K Q else E := by
  have hw : Region.wanted o (yielded ops a.tmps) = true := by simp [Region.wanted, hg]
  rw [if_pos hw]
  obtain ⟨v', w', hrun, hA⟩ := run_append_g T w o.type hown hsrc hyl h1 hbase hl hby
  obtain ⟨ao, c, rfl⟩ := own_shape hA.own
  unfold Oper.wp
  simp [execOp, hop, resolve, invoke, builtin, hs, hx, hrun, Result.andThen]
  exact hK ao c w' hA

/-- A row of tokens of the call's own. -/
structure Kr (w : World) (e : Nat) (P : List M.Tok) (v : Value) (wr : World) : Prop where
  own : wr.ownsRow w.heap.size e 3 v P.length (tcl P)
  below : Below w.heap.size w wr
theorem Kr.put {w wr w1 : World} {e : Nat} {P : List M.Tok} {t : M.Tok} {v v' : Value} {o : Obj} {n : Nat} (h : Kr w e P v wr) (hA : Apg (wr.alloc o) w.heap.size e 3 v n (tcl P ++ tcl [t]) v' w1) (hn : n = P.length + 1) : Kr w e (P ++ [t]) v' w1 := by
  subst hn
  refine ⟨?_, h.below.trans (hA.alloc.below h.own h.below.size)⟩
  rw [List.length_append, ← tcl_app]
  exact hA.own
theorem Kr.putD {w wr w1 : World} {e : Nat} {P : List M.Tok} {t : M.Tok} {v v' : Value} {o : Obj} {n : Nat} (h : Kr w e P v wr) (hA : Apg (wr.alloc o).drew w.heap.size e 3 v n (tcl P ++ tcl [t]) v' w1) (hn : n = P.length + 1) : Kr w e (P ++ [t]) v' w1 :=
  h.put (o := o) ⟨hA.own, ⟨hA.touch.os, hA.touch.tape, hA.touch.output, hA.touch.size, hA.touch.block⟩, hA.row⟩ hn

set_option maxHeartbeats 3200000 in
theorem of_any (ao : Option Addr) (c : Nat) (r : List M.Tok) (w : World) (h : KS w ao r) (hl : r.length ≤ 100000) :
    Calls Tryd.prog 10 #[.slice ao r.length c] w fun e w' => ∃ ao' c', e = .returned (.slice ao' r.length c') ∧ KS w' ao' r ∧ Below w.heap.size w w' := by
  have HI := Lib.hid fun W (hW : Below w.heap.size w W) => h.on hW
  have H0 : Hid (Kr w 51 (r.take 0) (.slice (some ⟨w.heap.size, 0, none⟩) 0 0) (w.alloc (.cells #[] 51))) := Lib.hid ⟨own_none w 51 3, (Below.refl _ _).alloc (Nat.le_refl _) _⟩
  obtain ⟨N, hN⟩ : ∃ N, N = r.length := ⟨_, rfl⟩
  have HN := Lib.hid hN
  rw [← hN] at hl ⊢
  clear h hN
  go_enter Tryd.func10, Tryd.ntmps10
  go_wp2
  go_loopg [3, 4] (N + 1) (fun gm v3 v4 wr => ∃ (i : Nat) (bo : Option Addr) (cu : Nat), i ≤ N ∧ N + 1 - i ≤ gm ∧ v3 = .slice bo i cu ∧ v4 = .int .i64 (i : Nat) ∧ Hid (Kr w 51 (r.take i) (.slice bo i cu) wr))
  case atStart => exact ⟨0, _, _, Nat.zero_le _, Nat.le_refl _, rfl, rfl, H0⟩
  case round =>
    clear H0
    obtain ⟨i, bo, cu, hi, hgm, rfl, rfl, HX⟩ := hrel
    by_cases hlt : i < N
    · have hlt' : (i : Int) < N := by omega
      obtain ⟨b, off, rfl, g1, g2, g3⟩ := (HI.out wr HX.out.below).at (k := i) (by rw [← HN.out]; exact hlt)
      obtain ⟨t, ht⟩ : ∃ t, t = tk r i := ⟨_, rfl⟩
      rw [← ht] at g1 g2 g3
      have HT : Hid (r.take (i + 1) = r.take i ++ [t]) := Lib.hid (by rw [ht]; exact tk_take r i (by rw [← HN.out]; exact hlt))
      obtain ⟨a, l, d⟩ := t
      simp only at g1 g2 g3
      have HL : Hid ((r.take i).length = i) := Lib.hid (by rw [List.length_take, ← HN.out]; omega)
      have HOWN : Hid (wr.ownsRow w.heap.size 51 3 (.slice bo i cu) i (tcl (r.take i))) := Lib.hid (by have := HX.out.own; rwa [HL.out] at this)
      have hsz := HX.out.below.size
      have hib : i ≤ 100000 := by omega
      have e1 : IntKind.i64.wrap ((i : Int) * 3) = (i : Int) * 3 := by rw [IntKind.wrap_i64]; omega
      clear ht
      go_wp2
      go_region_law (refine step_append_g at_rtok rfl (.tmp 12) (.tmp 29) rfl w.heap.size (.slice bo i cu) (.slice (some ⟨wr.heap.size, 0, none⟩) 1 1) i 1 (tcl (r.take i)) (tcl [⟨a, l, d⟩]) (by simp [Act.eval]) (by simp [Act.eval]) (World.ownsRow.alloc (w := wr) HOWN.out _) (cells_three wr 51 _ _ _) rfl (tcl_one _) (by simp; omega) (by omega) (by omega) ?_; intro ao2 cc2 w4 hA)
      all_goals
        have HP := Lib.hid (HX.out.putD hA (by rw [HL.out]))
        clear hA
        go_wp2
        go_roundg (N + 1 - (i + 1))
        case measure => omega
        case rel => exact ⟨i + 1, ao2, cc2, by omega, Nat.le_refl _, rfl, by simp, by rw [HT.out]; exact HP⟩
    · obtain rfl : i = N := by omega
      have HO : Hid (KS wr bo r ∧ Below w.heap.size w wr) := Lib.hid (by
        have h1 := HX.out.own
        have h2 : r.take i = r := by rw [HN.out]; exact List.take_length
        rw [h2, ← HN.out] at h1
        exact ⟨own_ks h1 HN.out.symm, HX.out.below⟩)
      clear HX
      go_wp2
      go_ret
      exact ⟨bo, cu, rfl, HO.out⟩
end Go.Proofs.YtjjjchdocnoabaaDoor
