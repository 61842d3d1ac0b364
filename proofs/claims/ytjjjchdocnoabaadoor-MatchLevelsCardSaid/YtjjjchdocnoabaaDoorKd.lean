
/-
  The reference's Expand, of tokens that are right and stay within the limit.
-/
import Derived.Test.YtjjjchdocnoabaaDoorKc
import Derived.Deep.CutRange
namespace Go.Proofs.YtjjjchdocnoabaaDoor
open Go.RowKit
set_option maxRecDepth 100000

theorem own_tyK {e size n base : Nat} {v : Value} {xs : List Value} {w : World} (h : w.ownsRow base e size v n xs) {k : Nat} (hk : v.ownBlock = some k) : ∃ cs, w.heap[k]? = some (.cells cs e (0, 0)) := by
  rcases h.2 with ⟨rfl, _⟩ | ⟨g', cap, cur, rfl, _, hh, _⟩
  · simp [Value.ownBlock] at hk
  · simp [Value.ownBlock] at hk
    subst hk
    exact ⟨cur, hh⟩
theorem own_cell {w : World} {base c n : Nat} {ao : Option Addr} {l : List Nat} (h : w.ownsRow base 5 1 (.slice ao n c) l.length (u8s l)) (hn : n = l.length) (k : Nat) (hk : k < l.length) : ∃ b, ao = some ⟨b, 0, none⟩ ∧ w.cell? ⟨b, k, none⟩ = some (.int .u8 (l.getD k 0 : Nat)) := by
  subst hn
  rcases h.2 with ⟨_, hl⟩ | ⟨g', cap, cur, he, _, hh, hc, _⟩
  · omega
  · simp only [Value.slice.injEq] at he
    obtain ⟨rfl, _, rfl⟩ := he
    exact ⟨g', rfl, row_cell h k hk⟩

theorem bel_on {w w1 w2 : World} (h : Below w.heap.size w w1) (k : Below w1.heap.size w1 w2) : Below w.heap.size w w2 := h.trans ((Touch.of_below k : Touch (fun _ => False) w1 w2).below h.size fun _ e => e.elim)
/-- While tokens are told: the bytes so far, and the token. -/
structure Kx (w : World) (bx e : Nat) (t : M.Tok) (v : Value) (l : List Nat) (wr : World) : Prop where
  own : wr.ownsRow w.heap.size 5 1 v l.length (u8s l)
  below : Below w.heap.size w wr
  x : Blk wr bx e #[.int .u8 (t.lit : Nat), .int .i64 (t.len : Nat), .int .i64 (t.dist : Nat)]
  e5 : e ≠ 5
theorem Kx.app {w wr w1 : World} {bx e : Nat} {t : M.Tok} {v v' : Value} {l xs : List Nat} {o : Obj} (h : Kx w bx e t v l wr) (hA : Apd (wr.alloc o) w.heap.size v xs v' w1) : Kx w bx e t v' xs w1 := by
  have t1 : Touch (fun k => v.ownBlock = some k) wr w1 := ((Touch.refl _ wr).alloc o).trans hA.touch
  refine ⟨hA.own, h.below.trans (t1.below h.below.size fun k hk => (h.own.lt k hk).1), h.x.touch t1 fun hk => ?_, h.e5⟩
  obtain ⟨cs, hc⟩ := own_tyK h.own hk
  have hx := h.x
  rw [Blk, hc] at hx
  simp at hx
  exact h.e5 hx.2.symm
theorem Kx.grow {w wr w1 : World} {bx e : Nat} {t : M.Tok} {v : Value} {l : List Nat} (h : Kx w bx e t v l wr) (hb : Below wr.heap.size wr w1) : Kx w bx e t v l w1 :=
  ⟨ownsRow_below h.own hb, bel_on h.below hb, h.x.below hb, h.e5⟩

set_option maxHeartbeats 6400000 in
theorem rExpand_ok (ao : Option Addr) (c : Nat) (r : List M.Tok) (m : List Nat) (limit : Int) (w : World) (h : KS w ao r) (hl : r.length ≤ 100000) (h8 : ∀ t ∈ r, t.lit < 256) (hex : M.ex r [] = some m) (hm : m.length ≤ limit.toNat) (hlim : limit ≤ 2000000) :
    Calls Tryd.prog 9 #[.slice ao r.length c, .int .i64 limit] w fun e w' => ∃ ao' c', e = .returned (.tuple #[.slice ao' m.length c', .int .i64 0]) ∧ w'.ownsRow w.heap.size 5 1 (.slice ao' m.length c') m.length (u8s m) ∧ Below w.heap.size w w' := by
  obtain ⟨lim, hlm⟩ : ∃ lim, lim = limit.toNat := ⟨_, rfl⟩
  rw [← hlm] at hm
  have hmx : max limit 0 = (lim : Int) := by omega
  have HM := Lib.hid hmx
  have hlb : lim ≤ 2000000 := by omega
  have HI := Lib.hid fun W (hW : Below w.heap.size w W) => h.on hW
  have H8 := Lib.hid h8
  have HML := Lib.hid hm
  have H0 : Hid (∃ l : List Nat, l.length = 0 ∧ (w.alloc (.cells #[] 5)).ownsRow w.heap.size 5 1 (.slice (some ⟨w.heap.size, 0, none⟩) 0 0) l.length (u8s l) ∧ Below w.heap.size w (w.alloc (.cells #[] 5)) ∧ M.ex (r.drop 0) l = some m) :=
    Lib.hid ⟨[], rfl, own_none w 5 1, (Below.refl _ _).alloc (Nat.le_refl _) _, hex⟩
  obtain ⟨N, hN⟩ : ∃ N, N = r.length := ⟨_, rfl⟩
  have HN := Lib.hid hN
  rw [← hN] at hl ⊢
  clear h hN h8 hex hmx hlm hlim hm
  go_enter Tryd.func9, Tryd.ntmps9
  go_upto_region 2 with fail
  go_cut [1] from 10 (fun s1 wx => s1 = .int .i64 (lim : Nat) ∧ wx = w.alloc (.cells #[] 5))
  case first =>
    have hm2 := HM.out
    go_wp2
    all_goals
      go_meet
      case rel => exact ⟨by first | rfl | (congr 1; omega), rfl⟩
  case rest =>
  obtain ⟨rfl, rfl⟩ := hcut
  go_wp2
  go_loopg [6, 7] (N + 1) (fun gm v6 v7 wr => ∃ (i n : Nat) (bo : Option Addr) (cu : Nat), i ≤ N ∧ N + 1 - i ≤ gm ∧ v6 = .slice bo n cu ∧ v7 = .int .i64 (i : Nat) ∧ Hid (∃ l : List Nat, l.length = n ∧ wr.ownsRow w.heap.size 5 1 (.slice bo n cu) l.length (u8s l) ∧ Below w.heap.size w wr ∧ M.ex (r.drop i) l = some m))
  case atStart => exact ⟨0, 0, _, _, Nat.zero_le _, Nat.le_refl _, rfl, rfl, H0⟩
  case round =>
    clear H0
    obtain ⟨i, n, bo, cu, hi, hgm, rfl, rfl, HX⟩ := hrel
    obtain ⟨l, hln, hown, hbel, hrest⟩ := HX.out
    by_cases hlt : i < N
    · have hlt' : (i : Int) < N := by omega
      obtain ⟨b, off, rfl, g1, g2, g3⟩ := (HI.out wr hbel).at (k := i) (by rw [← HN.out]; exact hlt)
      obtain ⟨t, ht⟩ : ∃ t, t = tk r i := ⟨_, rfl⟩
      have hmem : t ∈ r := by rw [ht]; exact tk_mem r i (by rw [← HN.out]; exact hlt)
      have hdrop : r.drop i = t :: r.drop (i + 1) := by
        rw [List.drop_eq_getElem_cons (by rw [← HN.out]; exact hlt), ht]
        unfold tk
        rw [List.getD_eq_getElem?_getD, List.getElem?_eq_getElem (by rw [← HN.out]; exact hlt)]; rfl
      rw [hdrop, M.ex] at hrest
      have hR : M.Right t ∧ t.dist ≤ l.length := Decidable.byContradiction fun e => by rw [if_neg e] at hrest; cases hrest
      rw [if_pos hR] at hrest
      have hml := M.ex_len hrest
      rw [M.one_len] at hml
      rw [← ht] at g1 g2 g3
      have h256 := H8.out t hmem
      obtain ⟨a, len, d⟩ := t
      simp only at g1 g2 g3 h256
      have hb1 : len ≤ 258 ∧ d ≤ 32768 := by
        have := hR.1
        unfold M.Right at this
        simp only at this
        omega
      have hd0 : len ≠ 0 → 1 ≤ d := fun e => by
        have := hR.1
        unfold M.Right at this
        simp only at this
        omega
      have hRR := Lib.hid hR.1
      obtain ⟨T, hTe⟩ : ∃ T, T = M.tells ⟨a, len, d⟩ := ⟨_, rfl⟩
      have hT : max (len : Int) 1 = (T : Int) := by rw [hTe]; unfold M.tells; simp only; omega
      rw [← hTe] at hml
      have hroom : n + T ≤ lim := by have := HML.out; omega
      have hdn : d ≤ n := by have := hR.2; simp only at this; omega
      have e7 : IntKind.i64.wrap ((lim : Int) - n) = ((lim - n : Nat) : Int) := by rw [IntKind.wrap_i64]; omega
      obtain ⟨dl, hdl⟩ : ∃ dl, dl = lim - n := ⟨_, rfl⟩
      rw [← hdl] at e7
      have e8 : (lim : Int) - n = dl := by omega
      have d7 : decide ((dl : Int) < T) = false := by simp; omega
      have d8 : decide (dl < T) = false := by simp; omega
      have d9 : decide ((n : Int) < d) = false := by simp; omega
      have d10 : decide (n < d) = false := by simp; omega
      have K0 : Hid (Kx w wr.heap.size 51 ⟨a, len, d⟩ (.slice bo n cu) l (wr.alloc (.cells #[.int .u8 (a : Nat), .int .i64 (len : Nat), .int .i64 (d : Nat)] 51))) :=
        Lib.hid ⟨World.ownsRow.alloc (w := wr) hown _, hbel.alloc hbel.size _, Blk.made wr 51 _, by decide⟩
      have HRS := Lib.hid hrest
      have HLN := Lib.hid hln
      have e1 : IntKind.i64.wrap ((i : Int) * 3) = (i : Int) * 3 := by rw [IntKind.wrap_i64]; omega
      obtain ⟨bx, hbx⟩ : ∃ bx, bx = wr.heap.size := ⟨_, rfl⟩
      rw [← hbx] at K0
      clear hown hbel hrest hdrop hmem ht hR hml hTe hdl hln HX
      go_wp2_with fail
      refine (rRight_any ⟨a, len, d⟩ _ h256 (by simp only; omega) (by simp only; omega)).mono ?_
      rintro e w2 ⟨rfl, hb2⟩
      rw [decide_eq_true hRR.out]
      have K1 := Lib.hid (K0.out.grow hb2)
      have x0 := (K1.out.x.cell 0).trans (show _ = some (.int .u8 (a : Nat)) from rfl)
      have x1 := (K1.out.x.cell 1).trans (show _ = some (.int .i64 (len : Nat)) from rfl)
      have x2 := (K1.out.x.cell 2).trans (show _ = some (.int .i64 (d : Nat)) from rfl)
      have HBX := Lib.hid hbx
      rw [← hbx]
      clear hb2 K0 hbx
      have hsz := K1.out.below.size
      by_cases hlen : len = 0
      · subst hlen
        have HOWN : Hid (w2.ownsRow w.heap.size 5 1 (.slice bo n cu) l.length (u8s l)) := Lib.hid K1.out.own
        have HONE : Hid (M.one ⟨a, 0, d⟩ l = l ++ [a]) := Lib.hid (by unfold M.one; rw [if_pos rfl])
        have hn2 : n ≤ 2000000 := by omega
        have HAPP : Hid (∀ ao2 cc2 w5, Apd (w2.alloc (.cells #[.int .u8 (a : Nat)] 5)) w.heap.size (.slice bo n cu) (l ++ [a]) (.slice ao2 (n + 1) cc2) w5 → w5.cell? ⟨bx, 1, none⟩ = some (.int .i64 0) ∧ Hid (Kx w bx 51 ⟨a, 0, d⟩ (.slice ao2 (n + 1) cc2) (l ++ [a]) w5)) := Lib.hid fun ao2 cc2 w5 hA => by
          have h1 := K1.out.app hA
          exact ⟨(h1.x.cell 1).trans rfl, Lib.hid h1⟩
        clear hd0 hb1
        go_wp2_with (refine wpList_append_x rfl (.tmp 44) (.tmp 47) rfl w.heap.size (.slice bo n cu) (.slice (some ⟨w2.heap.size, 0, none⟩) 1 1) l [a] rfl rfl (World.ownsRow.alloc (w := w2) HOWN.out _) (by_one w2 a rfl) (by simp; omega) (by simp; rw [HLN.out]; omega) ?_; intro ao2 cc2 w5 hA; rw [List.length_append, List.length_singleton, HLN.out] at hA; obtain ⟨y1, K2⟩ := HAPP.out ao2 cc2 w5 hA; rw [List.length_append, List.length_singleton, HLN.out]; clear hA)
        go_loopg [6, 9] 1 (fun _gm v6 v9 wr2 => v6 = .slice ao2 (n + 1) cc2 ∧ v9 = .int .i64 0 ∧ wr2 = w5)
        case atStart => exact ⟨rfl, rfl, rfl⟩
        case round =>
          obtain ⟨rfl, rfl, rfl⟩ := hrel
          go_wp2
          go_roundg (N + 1 - (i + 1))
          case measure => omega
          case rel =>
            refine ⟨i + 1, n + 1, ao2, cc2, by omega, Nat.le_refl _, rfl, by simp, Lib.hid ⟨l ++ [a], by rw [List.length_append, List.length_singleton, HLN.out], K2.out.own, K2.out.below, ?_⟩⟩
            have := HRS.out
            rwa [HONE.out] at this
      · have HONE : Hid (M.one ⟨a, len, d⟩ l = M.back d len l) := Lib.hid (by unfold M.one; rw [if_neg hlen])
        have hd1 := hd0 hlen
        have hlen' : ((len : Int) == 0) = false := by simp; omega
        have HRMM := Lib.hid hroom
        have hnl : n + len ≤ 2000000 := by
          have hTl : T = len := by
            have : max (len : Int) 1 = T := hT
            omega
          omega
        have hlT : len ≤ dl := by
          have : max (len : Int) 1 = T := hT
          omega
        have d7b : decide ((dl : Int) < len) = false := by simp; omega
        have d8b : decide (dl < len) = false := by simp; omega
        clear hlT
        have K2 : Hid (Kx w bx 51 ⟨a, len, d⟩ (.slice bo n cu) (M.back d 0 l) w2) := K1
        clear hd0 hb1 x0
        go_wp2
        go_loopg [6, 9] (len + 1) (fun gm v6 v9 wr2 => ∃ (k : Nat) (bo2 : Option Addr) (cu2 : Nat), k ≤ len ∧ len + 1 - k ≤ gm ∧ v6 = .slice bo2 (n + k : Nat) cu2 ∧ v9 = .int .i64 (k : Nat) ∧ Hid (Kx w bx 51 ⟨a, len, d⟩ (.slice bo2 (n + k : Nat) cu2) (M.back d k l) wr2))
        case atStart => exact ⟨0, bo, cu, Nat.zero_le _, Nat.le_refl _, rfl, rfl, K2⟩
        case round =>
          clear K2 K1 x1 x2
          obtain ⟨k, bo2, cu2, hk, hgk, rfl, rfl, K3⟩ := hrel
          have x1 := (K3.out.x.cell 1).trans (show _ = some (.int .i64 (len : Nat)) from rfl)
          have x2 := (K3.out.x.cell 2).trans (show _ = some (.int .i64 (d : Nat)) from rfl)
          by_cases hkl : k < len
          · have hkl' : (k : Int) < len := by omega
            have hlb2 : (M.back d k l).length = n + k := by rw [M.back_len, HLN.out]
            obtain ⟨mm, hmm⟩ : ∃ mm, mm = n + k := ⟨_, rfl⟩
            rw [← hmm] at hlb2 K3 ⊢
            obtain ⟨j, hj⟩ : ∃ j, j = mm - d := ⟨_, rfl⟩
            obtain ⟨g, rfl, hcell⟩ := own_cell K3.out.own hlb2.symm j (by rw [hlb2]; omega)
            obtain ⟨cc, hcc⟩ : ∃ cc, cc = (M.back d k l).getD j 0 := ⟨_, rfl⟩
            rw [← hcc] at hcell
            have hjm : (j : Int) < mm := by omega
            have e5 : IntKind.i64.wrap ((mm : Int) - d) = (j : Int) := by rw [IntKind.wrap_i64]; omega
            have HST : Hid (M.back d (k + 1) l = M.back d k l ++ [cc]) := Lib.hid (by rw [M.back_succ, hlb2, hcc, hj])
            have HOWN : Hid (wr.ownsRow w.heap.size 5 1 (.slice (some ⟨g, 0, none⟩) mm cu2) (M.back d k l).length (u8s (M.back d k l))) := Lib.hid K3.out.own
            have HLB := Lib.hid hlb2
            have HMM := Lib.hid hmm
            have hmb : mm ≤ 2000000 := by omega
            have hsz2 := K3.out.below.size
            clear hcc hj hlb2 hmm
            go_wp2_with (refine wpList_append_x rfl (.tmp 55) (.tmp 64) rfl w.heap.size (.slice (some ⟨g, 0, none⟩) mm cu2) (.slice (some ⟨wr.heap.size, 0, none⟩) 1 1) (M.back d k l) [cc] rfl rfl (World.ownsRow.alloc (w := wr) HOWN.out _) (by_one wr cc rfl) (by simp; omega) (by simp; rw [HLB.out]; omega) ?_; intro ao2 cc2 w5 hA; rw [List.length_append, List.length_singleton, HLB.out] at hA; have K4 := Lib.hid (K3.out.app hA); rw [List.length_append, List.length_singleton, HLB.out]; clear hA)
            go_roundg (len + 1 - (k + 1))
            case measure => omega
            case rel =>
              refine ⟨k + 1, ao2, cc2, by omega, Nat.le_refl _, ?_, by simp, ?_⟩
              · rw [HMM.out]; rfl
              · rw [HST.out]
                have := K4.out
                rw [HMM.out] at this
                exact Lib.hid this
          · obtain rfl : k = len := by omega
            go_wp2
            go_roundg (N + 1 - (i + 1))
            case measure => omega
            case rel =>
              refine ⟨i + 1, n + k, bo2, cu2, by omega, Nat.le_refl _, rfl, by simp, Lib.hid ⟨M.back d k l, by rw [M.back_len, HLN.out], K3.out.own, K3.out.below, ?_⟩⟩
              have := HRS.out
              rwa [HONE.out] at this
    · obtain rfl : i = N := by omega
      have HE : Hid (l = m) := Lib.hid (by
        have h1 := hrest
        rw [HN.out, List.drop_length] at h1
        cases h1; rfl)
      have HF : Hid (n = m.length ∧ wr.ownsRow w.heap.size 5 1 (.slice bo n cu) m.length (u8s m) ∧ Below w.heap.size w wr) := Lib.hid ⟨by rw [← HE.out, hln], by rw [← HE.out]; exact hown, hbel⟩
      clear hrest hown hbel hln HX
      go_wp2
      go_ret2
      obtain ⟨h1, h2, h3⟩ := HF.out
      subst h1
      exact ⟨bo, cu, rfl, h2, h3⟩
end Go.Proofs.YtjjjchdocnoabaaDoor
