/-
  The walk of LensPacks.
-/
import Derived.Test.YtccfbkbfmkdapaaUa
import Derived.Test.YtccfbkbfmkdapaaId
namespace Go.Proofs.Ytccfbkbfmkdapaa
open Go.RowKit

theorem items_all (a b : Option Addr) (c d : Nat) (P : List (Int × Int)) (w : World) (h : TS w a P) (h2 : TS w b P) (hl : P.length ≤ 1000) {n : Nat} (hn : n = P.length) :
    Calls Try.prog 19 #[.slice a n c, .slice b n d] w fun e w' => e = .returned (.bool true) ∧ ∃ q, w' = w.drewN q := hn ▸ items_same a b c d P w h h2 hl
theorem same_all (a b : Option Addr) (c d : Nat) (zs : List Int) (w : World) (h : IS w a zs) (h2 : IS w b zs) (hl : zs.length ≤ 1000) {n : Nat} (hn : n = zs.length) :
    Calls Try.prog 12 #[.slice a n c, .slice b n d] w fun e w' => e = .returned (.bool true) ∧ ∃ q, w' = w.drewN q := hn ▸ same_any a b c d zs w h h2 hl
theorem take_itm (rs : List (Int × Int)) {k : Nat} (h : k < rs.length) : rs.take (k + 1) = rs.take k ++ [itm rs k] := by
  rw [List.take_add_one]
  simp [itm, List.getD, h]

theorem packs_a (ao bo : Option Addr) (c d : Nat) (zs : List Int) (rs : List (Int × Int)) (w : World) (_h : 320 < zs.length) :
    Calls Try.prog 5 #[.slice ao zs.length c, .slice bo rs.length d] w fun e w' => e = .returned (.bool true) ∧ Below w.heap.size w w' := by
  have d0 : decide ((320 : Int) < zs.length) = true := decide_eq_true (by omega)
  go_enter Try.func5, Try.ntmps5
  go_wp2_with fail
  refine (alive_any w).mono ?_
  rintro e w1 ⟨rfl, hb1⟩
  have HB := Lib.hid hb1
  clear hb1
  go_wp2
  go_ret
  exact ⟨rfl, HB.out⟩
theorem packs_b (ao bo : Option Addr) (c d : Nat) (zs : List Int) (rs : List (Int × Int)) (w : World) (_h0 : zs.length ≤ 320) (_h : 100 < rs.length) :
    Calls Try.prog 5 #[.slice ao zs.length c, .slice bo rs.length d] w fun e w' => e = .returned (.bool true) ∧ Below w.heap.size w w' := by
  have d0 : decide ((320 : Int) < zs.length) = false := decide_eq_false (by omega)
  have d1 : decide ((100 : Int) < rs.length) = true := decide_eq_true (by omega)
  go_enter Try.func5, Try.ntmps5
  go_wp2_with fail
  refine (alive_any w).mono ?_
  rintro e w1 ⟨rfl, hb1⟩
  have HB := Lib.hid hb1
  clear hb1
  go_wp2
  go_ret
  exact ⟨rfl, HB.out⟩

set_option maxHeartbeats 8000000 in
set_option maxRecDepth 100000 in
theorem packs_in (ao bo : Option Addr) (c d : Nat) (zs : List Int) (rs : List (Int × Int)) (w : World) (h : IS w ao zs) (h2 : TS w bo rs) (hl : zs.length ≤ 320) (hl2 : rs.length ≤ 100) :
    Calls Try.prog 5 #[.slice ao zs.length c, .slice bo rs.length d] w fun e w' => e = .returned (.bool true) ∧ Below w.heap.size w w' := by
  have HU2 : Hid (unl (pks zs) = tks zs ∧ unb (pks zs) = true) := Lib.hid (tld_pks hl)
  obtain ⟨n, hn⟩ : ∃ n, n = zs.length := ⟨_, rfl⟩
  obtain ⟨m, hm⟩ : ∃ m, m = rs.length := ⟨_, rfl⟩
  rw [← hn] at hl ⊢
  rw [← hm] at hl2 ⊢
  have d0 : decide ((320 : Int) < n) = false := decide_eq_false (by omega)
  have d1 : decide ((100 : Int) < m) = false := decide_eq_false (by omega)
  have HI := Lib.hid h
  have HR := Lib.hid h2
  have HN := Lib.hid hn
  have HM := Lib.hid hm
  clear h h2 hn hm
  go_enter Try.func5, Try.ntmps5
  go_wp2_with fail
  refine (alive_any w).mono ?_
  rintro e w1 ⟨rfl, hb1⟩
  have HB1 := Lib.hid hb1
  have HI1 := Lib.hid (HI.out.below hb1)
  have HR1 := Lib.hid (HR.out.on hb1)
  clear hb1 HI HR
  go_wp2_with fail
  refine (pack_all ao c zs w1 HI1.out (by have := HN.out; omega) HN.out).mono ?_
  rintro e w2 ⟨a5, c5, rfl, hts, hb2⟩
  obtain ⟨p, hp⟩ : ∃ p, p = (pks zs).length := ⟨_, rfl⟩
  rw [← hp]
  have HP := Lib.hid hp
  have hpl : p ≤ 320 := by have h1 := pks_len zs; have h2 := HN.out; omega
  have HT5 := Lib.hid hts
  have HI2 := Lib.hid (HI1.out.below hb2)
  have HR2 := Lib.hid (HR1.out.on hb2)
  have HB2 := Lib.hid (HB1.out.trans (hb2.mono HB1.out.size))
  have H0 : Hid (Tr w2 40 (rs.take 0) (.slice (some ⟨w2.heap.size, 0, none⟩) (0 : Nat) 0) (w2.alloc (.cells #[] 40))) := Lib.hid ⟨own_none w2 40 2, (Below.refl _ _).alloc (Nat.le_refl _) _⟩
  clear hp hts hb2 HI1 HR1 HB1
  go_wp2
  clear d0 d1
  generalize w2.alloc (.cells #[] 40) = w3 at H0 ⊢
  generalize (⟨w2.heap.size, 0, none⟩ : Addr) = ad at H0 ⊢
  go_loopw [6, 7] (fun v6 kv wr => ∃ (k : Nat) (b6 : Option Addr) (c6 : Nat), v6 = .slice b6 k c6 ∧ kv = .int .i64 k ∧ k ≤ m ∧ Tr w2 40 (rs.take k) (.slice b6 k c6) wr) (fun _ kv _ => m - (intOf kv).toNat)
  case atStart => exact ⟨0, some ad, 0, rfl, rfl, Nat.zero_le _, H0.out⟩
  case round =>
    obtain ⟨k, b6, c6, rfl, rfl, hk, hT⟩ := hrel
    have HT := Lib.hid hT
    have HTL : Hid ((rs.take k).length = k) := Lib.hid (by rw [List.length_take]; have := HM.out; omega)
    have HO : Hid (wr.ownsRow w2.heap.size 40 2 (.slice b6 k c6) k (icl (rs.take k))) := Lib.hid (by have h := hT.own; rwa [HTL.out] at h)
    clear hT H0
    by_cases hlt : k < m
    · have hkk : (k : Int) < m := by omega
      obtain ⟨b1, o1, e1, q1, q2⟩ := (HR2.out.on HT.out.below).at (k := k) (by rw [← HM.out]; exact hlt)
      subst e1
      obtain ⟨s, hs⟩ : ∃ s, s = (itm rs k).1 := ⟨_, rfl⟩
      obtain ⟨x, hx⟩ : ∃ x, x = (itm rs k).2 := ⟨_, rfl⟩
      rw [← hs] at q1
      rw [← hx] at q2
      have HS : Hid (itm rs k = (s, x)) := Lib.hid (by rw [hs, hx])
      clear hs hx
      go_wp2
      go_region_law (refine step_append_g at37 rfl (.tmp 34) (.tmp 46) rfl w2.heap.size (.slice b6 k c6) (.slice (some ⟨wr.heap.size, 0, none⟩) 1 1) k 1 (icl (rs.take k)) (icl [(s, x)]) (by simp [Act.eval]) (by simp [Act.eval]) (World.ownsRow.alloc (w := wr) HO.out _) (cells_item wr _ rfl 40 (s, x)) rfl (icl_one _) (by simp; have := HT.out.below.size; omega) (by omega) (by omega) ?_; intro ao2 cc2 w4 hA)
      all_goals
        have H3 : Hid (Tr w2 40 (rs.take k ++ [(s, x)]) (.slice ao2 (k + 1) cc2) w4) := Lib.hid (HT.out.put (R := [(s, x)]) hA.undrew (by rw [HTL.out]; rfl))
        go_simp
        clear hA q1 q2
        go_wp2_with fail
        go_roundw
        case rel =>
          refine ⟨k + 1, ao2, cc2, rfl, by go_num, by omega, ?_⟩
          rw [take_itm rs (by rw [← HM.out]; exact hlt), HS.out]
          exact H3.out
        case measure => simp [intOf]; omega
    · have hk' : k = m := by omega
      subst hk'
      have HTS : Hid (TS wr b6 rs) := Lib.hid (by
        have h := HO.out
        rw [List.take_of_length_le (by rw [← HM.out]; exact Nat.le_refl _)] at h
        exact own_ts h HM.out.symm)
      have HIW := Lib.hid (HI2.out.below HT.out.below)
      have HRW := Lib.hid (HR2.out.on HT.out.below)
      have HT5W := Lib.hid (HT5.out.on HT.out.below)
      have HBW := Lib.hid (HB2.out.trans (HT.out.below.mono HB2.out.size))
      clear HI2 HR2 HT5 HB2 HT HTL HO
      go_wp2_with fail
      refine (unpack_all bo d rs wr HRW.out (by have := HM.out; omega) HM.out).mono ?_
      rintro e w5 ⟨a8, c8, rfl, hi8, hb5⟩
      obtain ⟨u, hu⟩ : ∃ u, u = unl rs := ⟨_, rfl⟩
      obtain ⟨ul, hul⟩ : ∃ ul, ul = u.length := ⟨_, rfl⟩
      obtain ⟨ub, hub⟩ : ∃ ub, ub = unb rs := ⟨_, rfl⟩
      have HUU := Lib.hid hu
      have HUB := Lib.hid hub
      have HUL := Lib.hid hul
      have hull : ul ≤ 320 := by have h := unl_len rs; rw [← hu] at h; omega
      rw [← hu] at hi8 ⊢
      rw [← hul, ← hub]
      have HI8 := Lib.hid hi8
      have HTS5 := Lib.hid (HTS.out.on hb5)
      have HI5 := Lib.hid (HIW.out.below hb5)
      have HT55 := Lib.hid (HT5W.out.on hb5)
      have HB5 := Lib.hid (HBW.out.trans (hb5.mono HBW.out.size))
      clear hu hul hub hi8 hb5 HTS HIW HRW HT5W HBW
      go_wp2_with fail
      refine (runpack_all b6 c6 rs w5 HTS5.out (by have := HM.out; omega) HM.out).mono ?_
      rintro e w6 ⟨a10, c10, rfl, hi10, hb6⟩
      rw [← HUU.out] at hi10 ⊢
      rw [← HUL.out, ← HUB.out]
      have HI10 := Lib.hid hi10
      have HI86 := Lib.hid (HI8.out.below hb6)
      have HI6 := Lib.hid (HI5.out.below hb6)
      have HT56 := Lib.hid (HT55.out.on hb6)
      have HB6 := Lib.hid (HB5.out.trans (hb6.mono HB5.out.size))
      clear hi10 hb6 HTS5 HI5 HT55 HB5 HI8
      go_wp2_with fail
      refine (rpack_all ao c zs w6 HI6.out (by have := HN.out; omega) HN.out).mono ?_
      rintro e w7 ⟨a60, c60, rfl, ht60, hb7⟩
      rw [← HP.out]
      have HT60 := Lib.hid ht60
      have HI107 := Lib.hid (HI10.out.below hb7)
      have HI87 := Lib.hid (HI86.out.below hb7)
      have HI7 := Lib.hid (HI6.out.below hb7)
      have HT57 := Lib.hid (HT56.out.on hb7)
      have HB7 := Lib.hid (HB6.out.trans (hb7.mono HB6.out.size))
      clear ht60 hb7 HI10 HI86 HI6 HT56 HB6
      have fb : (ub != ub) = false := by simp
      go_wp2_with fail
      refine (items_all a5 a60 c5 c60 (pks zs) w7 HT57.out HT60.out (by have := HP.out; omega) HP.out).mono ?_
      rintro e w8 ⟨rfl, q8, hq8⟩
      have hb8 : Below w7.heap.size w7 w8 := by rw [hq8]; exact below_drewN (Below.refl _ _) q8
      have HI108 := Lib.hid (HI107.out.below hb8)
      have HI88 := Lib.hid (HI87.out.below hb8)
      have HI8' := Lib.hid (HI7.out.below hb8)
      have HT58 := Lib.hid (HT57.out.on hb8)
      have HB8 := Lib.hid (HB7.out.trans (hb8.mono HB7.out.size))
      clear hb8 hq8 HI107 HI87 HI7 HT57 HB7 HT60
      go_wp2_with fail
      refine (same_all a8 a10 c8 c10 u w8 HI88.out HI108.out (by have := HUL.out; omega) HUL.out).mono ?_
      rintro e w9 ⟨rfl, q9, hq9⟩
      have hb9 : Below w8.heap.size w8 w9 := by rw [hq9]; exact below_drewN (Below.refl _ _) q9
      have HI9 := Lib.hid (HI8'.out.below hb9)
      have HT59 := Lib.hid (HT58.out.on hb9)
      have HB9 := Lib.hid (HB8.out.trans (hb9.mono HB8.out.size))
      clear hb9 hq9 HI108 HI88 HI8' HT58 HB8
      go_wp2_with fail
      refine (unpack_all a5 c5 (pks zs) w9 HT59.out (by have := HP.out; omega) HP.out).mono ?_
      rintro e w10 ⟨a12, c12, rfl, hi12, hb10⟩
      rw [HU2.out.1] at hi12 ⊢
      rw [HU2.out.2]
      obtain ⟨t, ht⟩ : ∃ t, t = (tks zs).length := ⟨_, rfl⟩
      rw [← ht]
      have HTT := Lib.hid ht
      have HI12 := Lib.hid hi12
      have HI10' := Lib.hid (HI9.out.below hb10)
      have HB10 := Lib.hid (HB9.out.trans (hb10.mono HB9.out.size))
      clear ht hi12 hb10 HI9 HT59 HB9
      go_wp2
      go_loopw [14] (fun iv wr => ∃ k : Nat, k ≤ n ∧ iv = .int .i64 k ∧ (∀ j, j < k → 0 ≤ zs.getD j 0 ∧ zs.getD j 0 ≤ 15) ∧ wr = w10) (fun iv _ => n - (intOf iv).toNat)
      case atStart => exact ⟨0, Nat.zero_le _, rfl, fun j hj => absurd hj (Nat.not_lt_zero j), rfl⟩
      case round =>
        obtain ⟨j, hj, rfl, hjs, rfl⟩ := hrel
        have HJ := Lib.hid hjs
        clear hjs
        by_cases hlt : j < n
        · have hjj : (j : Int) < n := by omega
          obtain ⟨b1, o1, e1, q1⟩ := HI10'.out.at (k := j) (by rw [← HN.out]; exact hlt)
          subst e1
          obtain ⟨x, hx⟩ : ∃ x, x = zs.getD j 0 := ⟨_, rfl⟩
          rw [← hx] at q1
          have HX := Lib.hid hx
          have HBAD : Hid (¬ (0 ≤ x ∧ x ≤ 15) → p = 0) := Lib.hid fun hb => by
            rw [HP.out]
            unfold pks
            rw [if_pos]
            · rfl
            · apply Classical.byContradiction
              intro hc
              exact hb (by rw [hx]; exact nobad_all hc j (by rw [← HN.out]; exact hlt))
          clear hx
          by_cases h1 : x < 0
          · have z1 : decide (x < 0) = true := decide_eq_true h1
            have z0 : ((p : Int) == 0) = true := by have := HBAD.out (by omega); simp [this]
            clear h1
            go_wp2
            go_ret
            exact ⟨rfl, HB10.out⟩
          · by_cases h2 : 15 < x
            · have z1 : decide (x < 0) = false := decide_eq_false h1
              have z2 : decide ((15 : Int) < x) = true := decide_eq_true h2
              have z0 : ((p : Int) == 0) = true := by have := HBAD.out (by omega); simp [this]
              clear h1 h2
              go_wp2
              go_ret
              exact ⟨rfl, HB10.out⟩
            · have z1 : decide (x < 0) = false := decide_eq_false h1
              have z2 : decide ((15 : Int) < x) = false := decide_eq_false h2
              have HXB : Hid (0 ≤ x ∧ x ≤ 15) := Lib.hid (by omega)
              clear h1 h2
              go_wp2
              go_roundw
              case rel =>
                refine ⟨j + 1, by omega, by go_num, fun i hi => ?_, trivial⟩
                rcases (show i < j ∨ i = j by omega) with h | rfl
                · exact HJ.out i h
                · rw [← HX.out]; exact HXB.out
              case measure => simp [intOf]; omega
        · have hj' : (n : Int) ≤ j := by omega
          have htk : tks zs = zs := by
            unfold tks
            rw [if_neg (all_nobad fun k hk => HJ.out k (by have := HN.out; omega))]
          have htn : t = n := by rw [HTT.out, htk]; exact HN.out.symm
          subst htn
          rw [htk] at HI12
          clear htk
          go_wp2_with fail
          refine (same_all a12 ao c12 c zs wr HI12.out HI10'.out (by have := HN.out; omega) HN.out).mono ?_
          rintro e w11 ⟨rfl, q11, hq11⟩
          have HB11 : Hid (Below w.heap.size w w11) := Lib.hid (by rw [hq11]; exact below_drewN HB10.out q11)
          clear hq11
          go_wp2
          go_ret
          exact ⟨rfl, HB11.out⟩
theorem packs (ao bo : Option Addr) (c d : Nat) (zs : List Int) (rs : List (Int × Int)) (w : World) (h : IS w ao zs) (h2 : TS w bo rs) :
    Calls Try.prog 5 #[.slice ao zs.length c, .slice bo rs.length d] w fun e w' => e = .returned (.bool true) ∧ Below w.heap.size w w' := by
  by_cases hl : zs.length ≤ 320
  · by_cases hl2 : rs.length ≤ 100
    · exact packs_in ao bo c d zs rs w h h2 hl hl2
    · exact packs_b ao bo c d zs rs w hl (by omega)
  · exact packs_a ao bo c d zs rs w (by omega)
end Go.Proofs.Ytccfbkbfmkdapaa
