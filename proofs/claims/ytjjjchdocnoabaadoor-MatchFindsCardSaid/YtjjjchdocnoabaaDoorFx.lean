/-
  The program's Expand, of whatever tokens.
-/
import Derived.Test.YtjjjchdocnoabaaDoorKe
import Derived.Test.YtjjjchdocnoabaaDoorFa
namespace Go.Proofs.YtjjjchdocnoabaaDoor
open Go.RowKit
set_option maxRecDepth 100000

set_option maxHeartbeats 6400000 in
theorem pExpand_any (ao : Option Addr) (c : Nat) (r : List M.Tok) (limit : Int) (w : World) (h : KS w ao r) (hl : r.length ≤ 100000) (hfit : Fit r) (hlim : limit ≤ 2000000) :
    Calls Tryd.prog 13 #[.slice ao r.length c, .int .i64 limit] w (ExpTo r limit.toNat w) := by
  obtain ⟨lim, hlm⟩ : ∃ lim, lim = limit.toNat := ⟨_, rfl⟩
  rw [← hlm]
  have hmx : max limit 0 = (lim : Int) := by omega
  have HM := Lib.hid hmx
  have hlb : lim ≤ 2000000 := by omega
  have HI := Lib.hid fun W (hW : Below w.heap.size w W) => h.on hW
  have H8 := Lib.hid hfit
  obtain ⟨N, hN⟩ : ∃ N, N = r.length := ⟨_, rfl⟩
  have HN := Lib.hid hN
  rw [← hN] at hl ⊢
  have H0 : Hid (∃ l : List Nat, l.length = 0 ∧ l.length ≤ lim ∧ w.ownsRow w.heap.size 5 1 (.slice none 0 0) l.length (u8s l) ∧ Below w.heap.size w w ∧ M.exL lim r [] = M.exL lim (r.drop 0) l) :=
    Lib.hid ⟨[], rfl, Nat.zero_le _, ⟨by simp [u8s], .inl ⟨rfl, rfl⟩⟩, Below.refl _ _, rfl⟩
  clear h hN hfit hlm hlim hmx
  go_enter Tryd.func13, Tryd.ntmps13
  go_wp2
  go_loopg [6, 11] (N + 1) (fun gm v6 v11 wr => ∃ (i n : Nat) (bo : Option Addr) (cu : Nat), i ≤ N ∧ N + 1 - i ≤ gm ∧ n ≤ lim ∧ v6 = .slice bo n cu ∧ v11 = .int .i64 (i : Nat) ∧ Hid (∃ l : List Nat, l.length = n ∧ wr.ownsRow w.heap.size 5 1 (.slice bo n cu) l.length (u8s l) ∧ Below w.heap.size w wr ∧ M.exL lim r [] = M.exL lim (r.drop i) l))
  case atStart =>
    obtain ⟨l, h1, h2, h3, h4, h5⟩ := H0.out
    exact ⟨0, 0, _, _, Nat.zero_le _, Nat.le_refl _, Nat.zero_le _, rfl, rfl, Lib.hid ⟨l, h1, h3, h4, h5⟩⟩
  case round =>
    clear H0
    obtain ⟨i, n, bo, cu, hi, hgm, hnl, rfl, rfl, HX⟩ := hrel
    obtain ⟨l, hln, hown, hbel, hrest⟩ := HX.out
    by_cases hlt : i < N
    · have hlt' : (i : Int) < N := by omega
      obtain ⟨b, off, rfl, g1, g2, g3⟩ := (HI.out wr hbel).at (k := i) (by rw [← HN.out]; exact hlt)
      obtain ⟨t, ht⟩ : ∃ t, t = tk r i := ⟨_, rfl⟩
      have hmem : t ∈ r := by rw [ht]; exact tk_mem r i (by rw [← HN.out]; exact hlt)
      have hdrop : r.drop i = t :: r.drop (i + 1) := by
        rw [List.drop_eq_getElem_cons (by rw [← HN.out]; exact hlt), ht]
        unfold tk
        rw [List.getD_eq_getElem?_getD, List.getElem?_eq_getElem (by rw [← HN.out]; exact hlt)]; rfl
      rw [hdrop, M.exL] at hrest
      rw [← ht] at g1 g2 g3
      obtain ⟨h256, hb1, hb2⟩ := H8.out t hmem
      obtain ⟨a, len, d⟩ := t
      simp only at g1 g2 g3 h256 hb1 hb2
      have K0 : Hid (Kx w wr.heap.size 34 ⟨a, len, d⟩ (.slice bo n cu) l (wr.alloc (.cells #[.int .u8 (a : Nat), .int .i64 (len : Nat), .int .i64 (d : Nat)] 34))) :=
        Lib.hid ⟨World.ownsRow.alloc (w := wr) hown _, hbel.alloc hbel.size _, Blk.made wr 34 _, by decide⟩
      have HLN := Lib.hid hln
      have e1 : IntKind.i64.wrap ((i : Int) * 3) = (i : Int) * 3 := by rw [IntKind.wrap_i64]; omega
      obtain ⟨bx, hbx⟩ : ∃ bx, bx = wr.heap.size := ⟨_, rfl⟩
      rw [← hbx] at K0
      have HRS := Lib.hid hrest
      clear hown hbel hrest hdrop hmem ht hln HX
      go_wp2_with fail
      refine (isToken_any ⟨a, len, d⟩ _ h256 hb1 hb2).mono ?_
      rintro e w2 ⟨rfl, hb2'⟩
      have K1 := Lib.hid (K0.out.grow hb2')
      have x0 := (K1.out.x.cell 0).trans (show _ = some (.int .u8 (a : Nat)) from rfl)
      have x1 := (K1.out.x.cell 1).trans (show _ = some (.int .i64 (len : Nat)) from rfl)
      have x2 := (K1.out.x.cell 2).trans (show _ = some (.int .i64 (d : Nat)) from rfl)
      have HBX := Lib.hid hbx
      rw [← hbx]
      clear hb2' K0 hbx
      by_cases hR : M.Right ⟨a, len, d⟩
      · rw [decide_eq_true hR]
        have hRb : len ≤ 258 ∧ d ≤ 32768 ∧ (len ≠ 0 → 1 ≤ d) := by
          have := hR
          unfold M.Right at this
          simp only at this
          omega
        by_cases hdn : d ≤ n
        · have d9 : decide ((n : Int) < d) = false := by simp; omega
          have d10 : decide (n < d) = false := by simp; omega
          have HRS2 := HRS.out
          rw [if_neg (by rw [HLN.out]; exact fun e => e ⟨hR, hdn⟩), HLN.out] at HRS2
          obtain ⟨T, hTe⟩ : ∃ T, T = M.tells ⟨a, len, d⟩ := ⟨_, rfl⟩
          have hT : max (len : Int) 1 = (T : Int) := by rw [hTe]; unfold M.tells; simp only; omega
          have HT := Lib.hid hT
          have HTE := Lib.hid hTe
          rw [← hTe] at HRS2
          have HRS3 := Lib.hid HRS2
          have e7 : IntKind.i64.wrap ((lim : Int) - n) = ((lim - n : Nat) : Int) := by rw [IntKind.wrap_i64]; omega
          obtain ⟨dl, hdl⟩ : ∃ dl, dl = lim - n := ⟨_, rfl⟩
          rw [← hdl] at e7
          have e8 : (lim : Int) - n = dl := by omega
          have HDL := Lib.hid hdl
          clear hR HRS HRS2 hT hTe hdl
          go_upto_region 7 with fail
          go_cut [32] from 33 to 57 (fun s32 wx => s32 = .bool (decide (dl < T)) ∧ Hid (Kx w bx 34 ⟨a, len, d⟩ (.slice bo n cu) l wx))
          case first =>
            go_wp2_with fail
            refine (span_any ⟨a, len, d⟩ _ hb1).mono ?_
            rintro e w3 ⟨rfl, hb3⟩
            rw [← HTE.out]
            have K3 := Lib.hid (K1.out.grow hb3)
            clear K1 hb3 x0 x1 x2
            have hm2 := HM.out
            go_wp2
            all_goals
              go_meet
              case rel => exact ⟨congrArg Value.bool (decide_eq_decide.2 (by omega)), K3⟩
          case rest =>
          obtain ⟨rfl, K3⟩ := hcut
          clear K1 HM e7 e8 x0 x1 x2
          have x0 := (K3.out.x.cell 0).trans (show _ = some (.int .u8 (a : Nat)) from rfl)
          have x1 := (K3.out.x.cell 1).trans (show _ = some (.int .i64 (len : Nat)) from rfl)
          have x2 := (K3.out.x.cell 2).trans (show _ = some (.int .i64 (d : Nat)) from rfl)
          by_cases hdt : dl < T
          · have HE : Hid (M.exL lim r [] = .inl 14) := Lib.hid (by
              rw [HRS3.out, if_pos (by have := HDL.out; omega)])
            have HBB := Lib.hid K3.out.below
            go_wp2
            go_ret2
            exact ⟨HBB.out, .inl ⟨14, HE.out, rfl⟩⟩
          rw [decide_eq_false hdt]
          have hTd : T ≤ dl := by omega
          have hnT : n + T ≤ lim := by have := HDL.out; omega
          have HRS : Hid (M.exL lim r [] = M.exL lim (List.drop (i + 1) r) (M.one ⟨a, len, d⟩ l)) := Lib.hid (by
            rw [HRS3.out, if_neg (by omega)])
          have hTb : len ≤ T ∧ (len = 0 → T = 1) ∧ (len ≠ 0 → T = len) := by have := HT.out; omega
          have hsz := K3.out.below.size
          clear HRS3 hdt
          by_cases hlen : len = 0
          · subst hlen
            have hn1 : n + 1 ≤ lim := by omega
            have HOWN : Hid (wc.ownsRow w.heap.size 5 1 (.slice bo n cu) l.length (u8s l)) := Lib.hid K3.out.own
            have HONE : Hid (M.one ⟨a, 0, d⟩ l = l ++ [a]) := Lib.hid (by unfold M.one; rw [if_pos rfl])
            have hn2 : n ≤ 2000000 := by omega
            have HAPP : Hid (∀ ao2 cc2 w5, Apd (wc.alloc (.cells #[.int .u8 (a : Nat)] 5)) w.heap.size (.slice bo n cu) (l ++ [a]) (.slice ao2 (n + 1) cc2) w5 → w5.cell? ⟨bx, 1, none⟩ = some (.int .i64 0) ∧ Hid (Kx w bx 34 ⟨a, 0, d⟩ (.slice ao2 (n + 1) cc2) (l ++ [a]) w5)) := Lib.hid fun ao2 cc2 w5 hA => by
              have h1 := K3.out.app hA
              exact ⟨(h1.x.cell 1).trans rfl, Lib.hid h1⟩
            have HN1 := Lib.hid hn1
            clear hRb hTb hnT hTd HT HTE hn1
            go_wp2_with (refine wpList_append_x rfl (.tmp 36) (.tmp 39) rfl w.heap.size (.slice bo n cu) (.slice (some ⟨wc.heap.size, 0, none⟩) 1 1) l [a] rfl rfl (World.ownsRow.alloc (w := wc) HOWN.out _) (by_one wc a rfl) (by simp; omega) (by simp; rw [HLN.out]; omega) ?_; intro ao2 cc2 w5 hA; rw [List.length_append, List.length_singleton, HLN.out] at hA; obtain ⟨y1, K2⟩ := HAPP.out ao2 cc2 w5 hA; rw [List.length_append, List.length_singleton, HLN.out]; clear hA)
            go_loopg [6, 43] 1 (fun _gm v6 v9 wr2 => v6 = .slice ao2 (n + 1) cc2 ∧ v9 = .int .i64 0 ∧ wr2 = w5)
            case atStart => exact ⟨rfl, rfl, rfl⟩
            case round =>
              obtain ⟨rfl, rfl, rfl⟩ := hrel
              go_wp2
              go_roundg (N + 1 - (i + 1))
              case measure => omega
              case rel =>
                refine ⟨i + 1, n + 1, ao2, cc2, by omega, Nat.le_refl _, HN1.out, rfl, by simp, Lib.hid ⟨l ++ [a], by rw [List.length_append, List.length_singleton, HLN.out], K2.out.own, K2.out.below, ?_⟩⟩
                have := HRS.out
                rwa [HONE.out] at this
          · have HONE : Hid (M.one ⟨a, len, d⟩ l = M.back d len l) := Lib.hid (by unfold M.one; rw [if_neg hlen])
            have hd1 := hRb.2.2 hlen
            have hlen' : ((len : Int) == 0) = false := by simp; omega
            have hnl : n + len ≤ lim := by omega
            have HNL := Lib.hid hnl
            have hnl2 : n + len ≤ 2000000 := by omega
            have K2 : Hid (Kx w bx 34 ⟨a, len, d⟩ (.slice bo n cu) (M.back d 0 l) wc) := K3
            clear hRb hTb hnT hTd HT HTE x0 hnl hlen
            go_wp2
            go_loopg [6, 43] (len + 1) (fun gm v6 v9 wr2 => ∃ (k : Nat) (bo2 : Option Addr) (cu2 : Nat), k ≤ len ∧ len + 1 - k ≤ gm ∧ v6 = .slice bo2 (n + k : Nat) cu2 ∧ v9 = .int .i64 (k : Nat) ∧ Hid (Kx w bx 34 ⟨a, len, d⟩ (.slice bo2 (n + k : Nat) cu2) (M.back d k l) wr2))
            case atStart => exact ⟨0, bo, cu, Nat.zero_le _, Nat.le_refl _, rfl, rfl, K2⟩
            case round =>
              clear K2 K3 x1 x2 hsz
              obtain ⟨k, bo2, cu2, hk, hgk, rfl, rfl, K3⟩ := hrel
              have x1 := (K3.out.x.cell 1).trans (show _ = some (.int .i64 (len : Nat)) from rfl)
              have x2 := (K3.out.x.cell 2).trans (show _ = some (.int .i64 (d : Nat)) from rfl)
              by_cases hkl : k < len
              · have hkl' : (k : Int) < len := by omega
                have hlb2 : (M.back d k l).length = n + k := by rw [M.back_len, HLN.out]
                obtain ⟨mm, hmm⟩ : ∃ mm, mm = n + k := ⟨_, rfl⟩
                rw [← hmm] at hlb2 K3 ⊢
                obtain ⟨j, hj⟩ : ∃ j, j = mm - d := ⟨_, rfl⟩
                obtain ⟨g, rfl, hcell⟩ := own_cell K3.out.own hlb2.symm j (by rw [hlb2]; omega)
                obtain ⟨cc, hcc⟩ : ∃ cc, cc = (M.back d k l).getD j 0 := ⟨_, rfl⟩
                rw [← hcc] at hcell
                have hjm : (j : Int) < mm := by omega
                have e5 : IntKind.i64.wrap ((mm : Int) - d) = (j : Int) := by rw [IntKind.wrap_i64]; omega
                have HST : Hid (M.back d (k + 1) l = M.back d k l ++ [cc]) := Lib.hid (by rw [M.back_succ, hlb2, hcc, hj])
                have HOWN : Hid (wr.ownsRow w.heap.size 5 1 (.slice (some ⟨g, 0, none⟩) mm cu2) (M.back d k l).length (u8s (M.back d k l))) := Lib.hid K3.out.own
                have HLB := Lib.hid hlb2
                have HMM := Lib.hid hmm
                have hmb : mm ≤ 2000000 := by omega
                have hsz2 := K3.out.below.size
                clear hcc hj hlb2 hmm
                go_wp2_with (refine wpList_append_x rfl (.tmp 45) (.tmp 54) rfl w.heap.size (.slice (some ⟨g, 0, none⟩) mm cu2) (.slice (some ⟨wr.heap.size, 0, none⟩) 1 1) (M.back d k l) [cc] rfl rfl (World.ownsRow.alloc (w := wr) HOWN.out _) (by_one wr cc rfl) (by simp; omega) (by simp; rw [HLB.out]; omega) ?_; intro ao2 cc2 w5 hA; rw [List.length_append, List.length_singleton, HLB.out] at hA; have K4 := Lib.hid (K3.out.app hA); rw [List.length_append, List.length_singleton, HLB.out]; clear hA)
                go_roundg (len + 1 - (k + 1))
                case measure => omega
                case rel =>
                  refine ⟨k + 1, ao2, cc2, by omega, Nat.le_refl _, ?_, by simp, ?_⟩
                  · rw [HMM.out]; rfl
                  · rw [HST.out]
                    have := K4.out
                    rw [HMM.out] at this
                    exact Lib.hid this
              · obtain rfl : k = len := by omega
                go_wp2
                go_roundg (N + 1 - (i + 1))
                case measure => omega
                case rel =>
                  refine ⟨i + 1, n + k, bo2, cu2, by omega, Nat.le_refl _, HNL.out, rfl, by simp, Lib.hid ⟨M.back d k l, by rw [M.back_len, HLN.out], K3.out.own, K3.out.below, ?_⟩⟩
                  have := HRS.out
                  rwa [HONE.out] at this
        · have d9 : (n : Int) < d := by omega
          have HE : Hid (M.exL lim r [] = .inl 10) := Lib.hid (by
            rw [HRS.out, if_pos (by rw [HLN.out]; exact fun e => hdn e.2)])
          have HBB := Lib.hid K1.out.below
          clear hR HRS x0 hdn
          go_wp2
          go_ret2
          exact ⟨HBB.out, .inl ⟨10, HE.out, rfl⟩⟩
      · rw [decide_eq_false hR]
        have HE : Hid (M.exL lim r [] = .inl 10) := Lib.hid (by
          rw [HRS.out, if_pos (fun e => hR e.1)])
        have HBB := Lib.hid K1.out.below
        clear hR HRS x0 x1 x2
        go_wp2
        go_ret2
        exact ⟨HBB.out, .inl ⟨10, HE.out, rfl⟩⟩
    · obtain rfl : i = N := by omega
      have HE : Hid (M.exL lim r [] = .inr l) := Lib.hid (by rw [hrest, HN.out, List.drop_length]; rfl)
      have HOWN := Lib.hid (And.intro hln (And.intro hown hbel))
      clear hrest hown hbel hln HX
      go_wp2
      go_ret2
      obtain ⟨h1, h2, h3⟩ := HOWN.out
      subst h1
      exact ⟨h3, .inr ⟨l, bo, cu, HE.out, rfl, h2⟩⟩
end Go.Proofs.YtjjjchdocnoabaaDoor
