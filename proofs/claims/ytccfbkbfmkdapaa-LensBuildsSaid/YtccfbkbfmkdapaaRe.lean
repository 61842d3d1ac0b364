/-
  Contract of the reference's Least.
-/
import Derived.Test.YtccfbkbfmkdapaaRc
namespace Go.Proofs.Ytccfbkbfmkdapaa
open Go.RowKit

theorem pairs_take (l : List Nat) {j : Nat} (h : 2 * j + 1 < l.length) : (pairs l).take (j + 1) = (pairs l).take j ++ [l.getD (2 * j) 0 + l.getD (2 * j + 1) 0] := by
  have hl : j < (pairs l).length := by rw [pairs_len]; omega
  rw [List.take_succ_eq_append_getElem hl, ← pairs_getD l j h]
  simp [List.getD, hl]
theorem rrow_len (cs : List Nat) (d : Nat) : (rrow cs d).length ≤ 2 * cs.length := by
  induction d with
  | zero => simp [rrow]
  | succ d ih => rw [rrow, mrg2_len, pairs_len]; omega
theorem mrg2_mem {cs ds : List Nat} {x : Nat} : x ∈ mrg2 cs ds → x ∈ cs ∨ x ∈ ds := by
  induction cs, ds using mrg2.induct with
  | case1 ds => rw [mrg2]; exact .inr
  | case2 c cs ih =>
    rw [mrg2]
    intro h
    rcases List.mem_cons.1 h with rfl | h
    · exact .inl List.mem_cons_self
    · rcases ih h with h | h
      · exact .inl (List.mem_cons_of_mem _ h)
      · exact .inr h
  | case3 c cs d ds hle ih =>
    rw [mrg2, if_pos hle]
    intro h
    rcases List.mem_cons.1 h with rfl | h
    · exact .inr List.mem_cons_self
    · rcases ih h with h | h
      · exact .inl h
      · exact .inr (List.mem_cons_of_mem _ h)
  | case4 c cs d ds hle ih =>
    rw [mrg2, if_neg hle]
    intro h
    rcases List.mem_cons.1 h with rfl | h
    · exact .inl List.mem_cons_self
    · rcases ih h with h | h
      · exact .inl (List.mem_cons_of_mem _ h)
      · exact .inr h
theorem rrow_le {cs : List Nat} {M : Nat} (h : ∀ x ∈ cs, x ≤ M) (d : Nat) : ∀ x ∈ rrow cs d, x ≤ M * 2 ^ d := by
  induction d with
  | zero => intro x hx; simp [rrow] at hx
  | succ d ih =>
    intro x hx
    rw [rrow] at hx
    rw [Nat.pow_succ, ← Nat.mul_assoc]
    have hp : 1 ≤ 2 ^ d := Nat.one_le_two_pow
    rcases mrg2_mem hx with hx | hx
    · have := h x hx
      have : M * 1 ≤ M * 2 ^ d := Nat.mul_le_mul_left M hp
      omega
    · obtain ⟨a, b, ha, hb, rfl⟩ := pairs_mem hx
      have := ih a ha
      have := ih b hb
      omega
theorem rrow_at {cs : List Nat} (h : ∀ x ∈ cs, x ≤ 1099511627776) {d : Nat} (hd : d ≤ 15) (i : Nat) : (rrow cs d).getD i 0 ≤ 36028797018963968 := by
  rcases Nat.lt_or_ge i (rrow cs d).length with hi | hi
  · have e : (rrow cs d).getD i 0 = (rrow cs d)[i] := by simp [List.getD, hi]
    rw [e]
    have h1 := rrow_le h d _ (List.getElem_mem hi)
    have h2 : 1099511627776 * 2 ^ d ≤ 1099511627776 * 2 ^ 15 := Nat.mul_le_mul_left _ (Nat.pow_le_pow_right (by omega) hd)
    omega
  · rw [getD_zero hi]; omega
theorem bst_le {ns us : List Nat} {lim : Nat} (ho : Okn ns lim) (hU : Used ns us) (hul : us.length ≤ 2 ^ lim) : bst (cts ns us) (lim - 1) ≤ 5277655813324800 := by
  rw [← lens_cost hU ho.lim.1 hul]
  refine Nat.le_trans (cst_le ho.all (fun x hx => Nat.le_trans (lens_le hU ho.lim.1 hul x hx) ho.lim.2) ns.length) ?_
  exact Nat.le_trans (Nat.mul_le_mul_right _ ho.len) (by omega)
theorem nobad_ints {ns : List Nat} (hx : ∀ x ∈ ns, x ≤ 1099511627776) : anyBad 0 maxC (ints ns) = false := by
  unfold anyBad
  rw [List.any_eq_false]
  intro z hz hb
  obtain ⟨x, hx', rfl⟩ := List.mem_map.1 hz
  have := hx x hx'
  unfold maxC at hb
  rcases of_decide_eq_true hb with h1 | h1 <;> omega
theorem cts_le {ns us : List Nat} (hU : Used ns us) (hx : ∀ x ∈ ns, x ≤ 1099511627776) : ∀ x ∈ cts ns us, x ≤ 1099511627776 := fun x h => by
  have h1 := hU.nz.mem_iff.1 h
  exact hx x (List.mem_filter.1 h1).1
/-- The reference's counts are those of the symbols, turned about. -/
theorem ds_rev {ns us ds : List Nat} (hU : Used ns us) (hd : Dn ds) (hp : ds.Perm (nz (nat (ints ns)))) : ds = (cts ns us).reverse := by
  rw [nat_ints] at hp
  have e : ds.reverse = cts ns us := Up.perm (List.pairwise_reverse.2 hd) hU.up ((List.reverse_perm ds).trans (hp.trans hU.nz.symm))
  rw [← e, List.reverse_reverse]

set_option maxHeartbeats 8000000 in
set_option maxRecDepth 100000 in
theorem least_any (ao : Option Addr) (c : Nat) (ns us : List Nat) (lim : Nat) (w : World) (h : IS w ao (ints ns)) (ho : Okn ns lim) (hU : Used ns us) (hul : us.length ≤ 2 ^ lim) {n : Nat} (hn : n = ns.length) :
    Calls Try.prog 14 #[.slice ao n c, .int .i64 lim] w fun e w' => e = .returned (.int .i64 (bst (cts ns us) (lim - 1) : Nat)) ∧ Below w.heap.size w w' := by
  obtain ⟨cs, hcs⟩ : ∃ cs, cs = cts ns us := ⟨_, rfl⟩
  have HCS := Lib.hid hcs
  obtain ⟨B, hB⟩ : ∃ B, B = bst cs (lim - 1) := ⟨_, rfl⟩
  have HB := Lib.hid hB
  have HBL : Hid (B ≤ 5277655813324800) := Lib.hid (by rw [hB, hcs]; exact bst_le ho hU hul)
  have HM : Hid (∀ x ∈ cs, x ≤ 1099511627776) := Lib.hid (by rw [hcs]; exact cts_le hU ho.all)
  have HUP : Hid (Up cs) := Lib.hid (by rw [hcs]; exact hU.up)
  obtain ⟨N, hN⟩ : ∃ N, N = cs.length := ⟨_, rfl⟩
  have HN := Lib.hid hN
  have hNl : N ≤ 320 := by rw [hN, hcs, cts_len, hU.len_nz]; exact Nat.le_trans (List.length_filter_le _ _) ho.len
  have HNP : Hid (N ≤ 2 ^ lim) := Lib.hid (by rw [hN, hcs, cts_len]; exact hul)
  have hl1 := ho.lim.1
  have hl2 := ho.lim.2
  have HNB := Lib.hid (nobad_ints ho.all)
  have HU := Lib.hid (rused_any ao c (ints ns) w h (by rw [ints_len]; have := ho.len; omega) (n := n) (by rw [ints_len]; exact hn))
  have HDR : Hid (∀ ds, Dn ds → ds.Perm (nz (nat (ints ns))) → ds = cs.reverse) := Lib.hid fun ds h1 h2 => by rw [hcs]; exact ds_rev hU h1 h2
  rw [← hcs, ← hB]
  clear hcs hB hN h ho hU hul hn
  go_enter Try.func14, Try.ntmps14
  go_wp2_with fail
  with_reducible refine HU.out.mono ?_
  rintro e w1 (⟨hb, _, _⟩ | ⟨_, ds, eo, ce, rfl, hd, hp, hi, hb1⟩)
  · rw [HNB.out] at hb; cases hb
  obtain rfl := HDR.out ds hd hp
  have HI := Lib.hid hi
  have HB1 := Lib.hid hb1
  have hrl : cs.reverse.length = N := by rw [List.length_reverse]; exact HN.out.symm
  rw [hrl]
  clear hd hp hi hb1 HU HDR HNB
  by_cases h0 : N = 0
  · have f0 : ((N : Int) == 0) = true := by simp [h0]
    obtain rfl : B = 0 := by rw [HB.out, bst, if_pos (by rw [← HN.out]; exact h0)]
    clear h0
    go_wp2
    go_ret
    exact ⟨rfl, HB1.out⟩
  · have f0 : ((N : Int) == 0) = false := by simp; omega
    by_cases h1 : N = 1
    · have f1 : ((N : Int) == 1) = true := by simp [h1]
      obtain ⟨b1, o1, rfl, q1⟩ := HI.out.nat (k := 0) (by rw [hrl]; omega)
      have e1 : cs.reverse.getD 0 0 = B := by
        obtain ⟨x, hx⟩ : ∃ x, cs = [x] := List.length_eq_one_iff.1 (by rw [← HN.out]; exact h1)
        rw [HB.out, hx]; rfl
      rw [e1, Nat.add_zero] at q1
      have hN0 : 0 < N := by omega
      clear h0 h1 e1
      go_wp2
      go_ret
      exact ⟨rfl, HB1.out⟩
    · have f1 : ((N : Int) == 1) = false := by simp; omega
      have H0 : Hid (Below w1.heap.size w1 (w1.alloc (.cells #[] 3))) := Lib.hid ((Below.refl _ _).alloc (Nat.le_refl _) _)
      have HRL : Hid (∀ k, (rrow cs k).length ≤ 640) := Lib.hid fun k => by have := rrow_len cs k; rw [← HN.out] at this; omega
      go_wp2
      clear f0 f1 hrl
      generalize w1.alloc (.cells #[] 3) = w2 at H0 ⊢
      generalize (⟨w1.heap.size, 0, none⟩ : Addr) = ad at H0 ⊢
      go_loopw [8, 9] (fun v8 dv wr => ∃ (k r : Nat) (eo2 : Option Addr) (c2 : Nat), v8 = .slice eo2 r c2 ∧ dv = .int .i64 k ∧ k ≤ lim ∧ r = (rrow cs k).length ∧ IS wr eo2 (ints (rrow cs k)) ∧ Below w1.heap.size w1 wr) (fun _ dv _ => lim - (intOf dv).toNat)
      case atStart => exact ⟨0, 0, some ad, 0, rfl, rfl, Nat.zero_le _, rfl, .inl rfl, H0.out⟩
      case round =>
        obtain ⟨k, r, eo2, c2, rfl, rfl, hk, hr, hR, hbk⟩ := hrel
        generalize wr = wo at *
        have HR := Lib.hid hR
        have HBK := Lib.hid hbk
        have HRR := Lib.hid hr
        have hr640 : r ≤ 640 := by rw [hr]; exact HRL.out k
        clear hR hbk hr H0
        by_cases hlt : k < lim
        · have hkk : (k : Int) < lim := by omega
          have H1 : Hid (Rn wo (ints ((pairs (rrow cs k)).take 0)) (.slice (some ⟨wo.heap.size, 0, none⟩) (0 : Nat) 0) (wo.alloc (.cells #[] 3))) := Lib.hid ⟨own_none wo 3 1, (Below.refl _ _).alloc (Nat.le_refl _) _⟩
          go_wp2
          generalize wo.alloc (.cells #[] 3) = w3 at H1 ⊢
          generalize (⟨wo.heap.size, 0, none⟩ : Addr) = ad2 at H1 ⊢
          go_loopw [10, 11] (fun v10 iv wi => ∃ (j i : Nat) (eo3 : Option Addr) (c3 : Nat), v10 = .slice eo3 j c3 ∧ iv = .int .i64 i ∧ i = 2 * j ∧ i ≤ r ∧ Rn wo (ints ((pairs (rrow cs k)).take j)) (.slice eo3 j c3) wi) (fun _ iv _ => r - (intOf iv).toNat)
          case atStart => exact ⟨0, 0, some ad2, 0, rfl, rfl, rfl, Nat.zero_le _, H1.out⟩
          case round =>
            obtain ⟨j, i, eo3, c3, rfl, rfl, hij, hir, hRn⟩ := hrel
            generalize wr = wi at *
            have HRn := Lib.hid hRn
            have HIJ := Lib.hid hij
            have hjr : j ≤ 640 := by omega
            clear hRn hij H1
            by_cases hlt2 : i + 1 < r
            · have hii : (i : Int) + 1 < r := by omega
              have hi0 : i < r := by omega
              obtain ⟨b1, o1, e1, q1⟩ := (HR.out.below HRn.out.below).nat (k := i) (by rw [← HRR.out]; omega)
              subst e1
              obtain ⟨b2, o2, e2, q2⟩ := (HR.out.below HRn.out.below).nat (k := i + 1) (by rw [← HRR.out]; omega)
              simp only [Option.some.injEq, Addr.mk.injEq, and_true] at e2
              obtain ⟨rfl, rfl⟩ := e2
              obtain ⟨x, hx⟩ : ∃ x, x = (rrow cs k).getD i 0 := ⟨_, rfl⟩
              obtain ⟨y, hy⟩ : ∃ y, y = (rrow cs k).getD (i + 1) 0 := ⟨_, rfl⟩
              obtain ⟨s, hs⟩ : ∃ s, s = x + y := ⟨_, rfl⟩
              have hx1 : x ≤ 36028797018963968 := by rw [hx]; exact rrow_at HM.out (by omega) i
              have hy1 : y ≤ 36028797018963968 := by rw [hy]; exact rrow_at HM.out (by omega) (i + 1)
              have g1 : IntKind.i64.wrap ((x : Int) + y) = s := by rw [IntKind.wrap_i64]; omega
              have g2 : IntKind.i64.wrap ((i : Int) + 1) = (i : Int) + 1 := by rw [IntKind.wrap_i64]; omega
              have g4 : (0 : Int) ≤ (i : Int) + 1 := by omega
              have g5 : ((i : Int) + 1).toNat = i + 1 := by omega
              have HST : Hid ((pairs (rrow cs k)).take (j + 1) = (pairs (rrow cs k)).take j ++ [s]) := Lib.hid (by
                rw [pairs_take _ (by rw [← HRR.out, ← HIJ.out]; exact hlt2), ← HIJ.out, hs, hx, hy])
              have HTL : Hid ((ints ((pairs (rrow cs k)).take j)).length = j) := Lib.hid (by rw [ints_len, List.length_take, pairs_len, ← HRR.out]; have := HIJ.out; omega)
              have HOW : Hid (wi.ownsRow wo.heap.size 3 1 (.slice eo3 j c3) j (iv (ints ((pairs (rrow cs k)).take j)))) := Lib.hid (by have h := HRn.out.own; rwa [HTL.out] at h)
              rw [← hx] at q1
              rw [← hy] at q2
              clear hx hy hs hx1 hy1
              go_wp2
              go_region_law (refine step_append_g at22 rfl (.tmp 42) (.tmp 53) rfl wo.heap.size (.slice eo3 j c3) (.slice (some ⟨wi.heap.size, 0, none⟩) 1 1) j 1 (iv (ints ((pairs (rrow cs k)).take j))) [.int .i64 (s : Nat)] (by simp [Act.eval]) (by simp [Act.eval]) (World.ownsRow.alloc (w := wi) HOW.out _) (cells_1 wi 3 _) rfl (by simp [Value.oneCell']) (by simp; have := HRn.out.below.size; omega) (by omega) (by omega) ?_; intro ao2 cc2 w5 hA)
              all_goals
                have H3 : Hid (Rn wo (ints ((pairs (rrow cs k)).take (j + 1))) (.slice ao2 (j + 1) cc2) w5) := Lib.hid (by
                  have h1 := HRn.out.put (R := [(s : Int)]) (n := j + 1) hA.undrew (by rw [HTL.out]; rfl)
                  rw [HST.out, show ints ((pairs (rrow cs k)).take j ++ [s]) = ints ((pairs (rrow cs k)).take j) ++ [(s : Int)] by simp [ints]]
                  exact h1)
                go_simp
                clear hA q1 q2
                go_wp2_with fail
                go_roundw
                case rel => exact ⟨j + 1, i + 2, ao2, cc2, rfl, by go_num, by have := HIJ.out; omega, by omega, H3.out⟩
                case measure => simp [intOf]; omega
            · have hjm : j = r / 2 := by have := HIJ.out; omega
              have hii : decide ((i : Int) + 1 < r) = false := decide_eq_false (by omega)
              have HP : Hid (IS wi eo3 (ints (pairs (rrow cs k)))) := Lib.hid (by
                have h := HRn.out.own
                rw [List.take_of_length_le (by rw [pairs_len, ← HRR.out]; omega)] at h
                rw [ints_len, pairs_len, ← HRR.out, ← hjm] at h
                exact own_is h (by rw [ints_len, pairs_len, ← HRR.out]; exact hjm.symm))
              have HPL : Hid (j = (pairs (rrow cs k)).length) := Lib.hid (by rw [pairs_len, ← HRR.out]; exact hjm)
              have HBI := Lib.hid (HBK.out.trans (HRn.out.below.mono HBK.out.size))
              clear HRn hjm
              go_wp2_with fail
              refine (rmerged_any eo3 eo c3 ce cs (pairs (rrow cs k)) wi HP.out (HI.out.below HBI.out) (by rw [← HN.out]; omega) (by rw [← HPL.out]; omega) HN.out HPL.out).mono ?_
              rintro e w5 ⟨eo4, ce4, rfl, hi4, hb4⟩
              have HB4 := Lib.hid (HBI.out.trans (hb4.mono HBI.out.size))
              have HI4 := Lib.hid hi4
              clear hi4 hb4 HBI HP
              go_wp2_with fail
              go_roundw
              case rel => exact ⟨k + 1, _, eo4, ce4, rfl, by go_num, by omega, rfl, HI4.out, HB4.out⟩
              case measure => simp [intOf]; omega
        · have hkl : k = lim := by omega
          subst hkl
          obtain ⟨R, hR⟩ : ∃ R, R = rrow cs k := ⟨_, rfl⟩
          have hRc : R = cost (row cs (k - 1)) := by
            rw [hR]
            have h := rrow_eq HUP.out (k - 1)
            rwa [show k - 1 + 1 = k by omega] at h
          have HF : Hid (Fit cs (k - 1)) := Lib.hid ⟨HUP.out, by rw [← HN.out]; omega, by rw [← HN.out, show k - 1 + 1 = k by omega]; exact HNP.out⟩
          have HBB : Hid (B = pre R (2 * N - 2)) := Lib.hid (by
            rw [HB.out, bst, if_neg (by rw [← HN.out]; omega), if_neg (by rw [← HN.out]; omega), best, ← hRc, ← HN.out])
          have HRE : Hid (2 * N - 2 ≤ R.length) := Lib.hid (by rw [hRc, cost_len, HN.out]; exact HF.out.enough)
          have HRr : Hid (r = R.length) := Lib.hid (by rw [hR]; exact HRR.out)
          have HRI : Hid (IS wo eo2 (ints R)) := Lib.hid (by rw [hR]; exact HR.out)
          have HBW := Lib.hid (HB1.out.trans (HBK.out.mono HB1.out.size))
          clear hR hRc HR HRR HBK HF
          go_wp2
          go_loopw [12, 13] (fun cv iv wr => ∃ (i s : Nat), iv = .int .i64 i ∧ i + 2 ≤ 2 * N ∧ cv = .int .i64 s ∧ s = pre R i ∧ wr = wo) (fun _ iv _ => 2 * N - (intOf iv).toNat)
          case atStart => exact ⟨0, 0, rfl, by omega, rfl, (pre_zero R).symm, rfl⟩
          case round =>
            obtain ⟨i, s, rfl, hi2, rfl, hs, rfl⟩ := hrel
            have HS := Lib.hid hs
            have hsB : s ≤ B := by rw [hs, HBB.out]; exact pre_mono R (by omega)
            have hsl := HBL.out
            clear hs
            by_cases hlt2 : i + 2 < 2 * N
            · have hii : (i : Int) < 2 * (N : Int) - 2 := by omega
              have hir : i < r := by rw [HRr.out]; have := HRE.out; omega
              obtain ⟨b1, o1, e1, q1⟩ := HRI.out.nat (k := i) (by rw [← HRr.out]; exact hir)
              subst e1
              obtain ⟨x, hx⟩ : ∃ x, x = R.getD i 0 := ⟨_, rfl⟩
              rw [← hx] at q1
              have HX : Hid (s + x = pre R (i + 1)) := Lib.hid (by rw [pre_succ R i (by rw [← HRr.out]; exact hir), HS.out, hx])
              have hsx : s + x ≤ B := by rw [HX.out, HBB.out]; exact pre_mono R (by omega)
              clear hx
              go_wp2
              go_roundw
              case rel => exact ⟨i + 1, s + x, by go_num, by omega, by go_num, HX.out, trivial⟩
              case measure => simp [intOf]; omega
            · have hii : decide ((i : Int) < 2 * (N : Int) - 2) = false := decide_eq_false (by omega)
              have e : s = B := by rw [HS.out, HBB.out, show i = 2 * N - 2 by omega]
              clear HS hsB
              subst e
              go_wp2
              go_ret
              exact ⟨rfl, HBW.out⟩
end Go.Proofs.Ytccfbkbfmkdapaa
