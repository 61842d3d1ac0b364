
/-
  The walk of MatchCuts, over what Find, Expand and Same do (Prg).
-/
import Derived.Test.YtjjjchdocnoabaaDoorKe
namespace Go.Proofs.YtjjjchdocnoabaaDoor
open Go.RowKit
set_option maxRecDepth 100000

theorem ks_cells {w : World} {ao : Option Addr} {r : List M.Tok} {c : Nat} (h : KS w ao r) (hn : ao = none → c = 0) : CellsAt w (.slice ao r.length c) r.length (tcl r) := by
  rcases h with rfl | ⟨b, off, rfl, hc⟩
  · cases ao with
    | none => rw [hn rfl]; exact .inl ⟨rfl, rfl, rfl⟩
    | some ad => exact .inr ⟨ad, c, rfl, fun j x hx => by simp [tcl] at hx⟩
  · exact .inr ⟨⟨b, off, none⟩, c, rfl, fun j x hx => by
      rw [Addr.add_lit]
      exact hc j x hx⟩
theorem by_take7 {w : World} {ao : Option Addr} {n c : Nat} {xs : List Nat} (h : BySl w (.slice ao n c) xs) (k : Nat) (hk : k ≤ xs.length) : BySl w (.slice ao k c) (xs.take k) := by
  rcases h with ⟨h, rfl⟩ | ⟨ad, c', he, hc, h⟩
  · simp only [Value.slice.injEq] at h
    obtain ⟨rfl, rfl, rfl⟩ := h
    simp at hk
    subst hk
    exact .inl ⟨rfl, by simp⟩
  · simp only [Value.slice.injEq] at he
    obtain ⟨rfl, rfl, rfl⟩ := he
    refine .inr ⟨ad, c, by rw [List.length_take, Nat.min_eq_left hk], by rw [List.length_take]; omega, fun j u hu => h j u ?_⟩
    rw [u8s, List.map_take, List.getElem?_take] at hu
    split at hu
    · exact hu
    · cases hu
/-- append where a guard lets it run. -/
theorem wpList_append_xg {w : World} {ops : Array Oper} {rest : List Oper} {o : Oper} {a : Act} {Q : Exit → Act → World → Prop} (hw : Region.wanted o (yielded ops a.tmps) = true) (s x : Operand)
    (ho : o.op = .call { callee := .builtin .append, args := #[s, x], argTypes := #[22, 22] })
    (base : Nat) (v sv : Value) (xs ys : List Nat) (hs : a.eval s = v) (hx : a.eval x = sv) (hown : w.ownsRow base 5 1 v xs.length (u8s xs)) (hsrc : BySl w sv ys) (hbase : base ≤ w.heap.size) (hl : xs.length + ys.length ≤ 2000000000)
    (h : ∀ ao c w', Apd w base v (xs ++ ys) (.slice ao (xs ++ ys).length c) w' → wpList Tryd.prog ops Q rest (a.put o.dst (.slice ao (xs ++ ys).length c)) w') : wpList Tryd.prog ops Q (o :: rest) a w := by
  refine wpList_step fun K hK => ?_
  rw [if_pos hw]
  obtain ⟨v', w', hrun, hA⟩ := run_append_x w o.type hown hsrc hbase hl
  obtain ⟨ao, c, rfl⟩ := own_shape hA.own
  unfold Oper.wp
  simp [execOp, ho, resolve, invoke, builtin, hs, hx, hrun, Result.andThen]
  exact hK _ _ (by simpa using h ao c w' hA)
theorem sum_step (r : List M.Tok) (i : Nat) (h : i < r.length) : M.sum (r.take (i + 1)) = M.sum (r.take i) + M.tells (tk r i) := by rw [tk_take r i h, M.sum_snoc]

theorem cuts_out {Tb : World → Prop} (P : Prg Tb) (ao bo : Option Addr) (L c L2 c2 : Nat) (a2 : Int) (w : World) (hT : Tb w) (hL : L ≤ 9223372036854775807) (hL2 : L2 ≤ 9223372036854775807) (hl : ¬ (L ≤ 1000 ∧ L2 ≤ 1000)) :
    Calls Tryd.prog 5 #[.slice ao L c, .slice bo L2 c2, .int .i64 a2] w fun e w' => e = .returned (.bool true) ∧ Below w.heap.size w w' := by
  have HA := Lib.hid (alive7_any P w hT)
  clear hT P
  by_cases c0 : L ≤ 1000
  · have f0 : decide ((1000 : Int) < L) = false := by simp; omega
    have g0 : decide (1000 < L) = false := by simp; omega
    have b1 : (1000 : Int) < L2 := by omega
    clear hl c0
    go_enter Tryd.func5, Tryd.ntmps5
    go_wp2_with fail
    refine HA.out.mono ?_
    rintro e w1 ⟨rfl, hb1⟩
    have HB := Lib.hid hb1
    clear hb1
    go_wp2
    go_ret
    exact ⟨by simp, HB.out⟩
  · have b1 : (1000 : Int) < L := by omega
    clear hl c0
    go_enter Tryd.func5, Tryd.ntmps5
    go_wp2_with fail
    refine HA.out.mono ?_
    rintro e w1 ⟨rfl, hb1⟩
    have HB := Lib.hid hb1
    clear hb1
    go_wp2
    go_ret
    exact ⟨by simp, HB.out⟩

set_option maxHeartbeats 6400000 in
theorem cuts_walk {Tb : World → Prop} (P : Prg Tb) (ao bo : Option Addr) (c c2 : Nat) (xs ys : List Nat) (a2 : Int) (w : World) (hT : Tb w) (h : BySl w (.slice ao xs.length c) xs) (hb : Bs xs) (h2 : BySl w (.slice bo ys.length c2) ys) (hb2 : Bs ys) (hl : xs.length ≤ 1000) (hl2 : ys.length ≤ 1000) :
    Calls Tryd.prog 5 #[.slice ao xs.length c, .slice bo ys.length c2, .int .i64 a2] w fun e w' => e = .returned (.bool true) ∧ Below w.heap.size w w' := by
  have HA := Lib.hid (alive7_any P w hT)
  have HP := Lib.hid P
  have HT := Lib.hid hT
  have HB := Lib.hid (And.intro hb hb2)
  have HS := Lib.hid (And.intro h h2)
  obtain ⟨L, hL⟩ : ∃ L, L = xs.length := ⟨_, rfl⟩
  obtain ⟨K, hK⟩ : ∃ K, K = ys.length := ⟨_, rfl⟩
  have HL := Lib.hid (And.intro hL hK)
  rw [← hL, ← hK] at HS ⊢
  rw [← hL] at hl
  rw [← hK] at hl2
  have f0 : decide ((1000 : Int) < L) = false := by simp; omega
  have g0 : decide (1000 < L) = false := by simp; omega
  have f1 : decide ((1000 : Int) < K) = false := by simp; omega
  have g1 : decide (1000 < K) = false := by simp; omega
  clear hL hK h hb h2 hb2 hT P
  go_enter Tryd.func5, Tryd.ntmps5
  go_wp2_with fail
  refine HA.out.mono ?_
  rintro e w1 ⟨rfl, hb1⟩
  have B1 := Lib.hid hb1
  have S1 := Lib.hid (And.intro (by_on HS.out.1 hb1) (by_on HS.out.2 hb1))
  clear hb1 HA HS
  go_wp2_with fail
  refine (HP.out.find _ _ xs a2 (HP.out.keep HT.out B1.out) S1.out.1 HB.out.1 (by rw [← HL.out.1]; omega)).mono ?_
  rintro e w2 ⟨ax, cx, x, rfl, hkx, hb2, hcx, hex, h8x, _, _⟩
  have B2 := Lib.hid (bel_on B1.out hb2)
  have S2 := Lib.hid (And.intro (by_on S1.out.1 hb2) (by_on S1.out.2 hb2))
  have KX2 := Lib.hid hkx
  have HX := Lib.hid (And.intro hex (And.intro h8x hcx.2))
  have hfx := few_of hex
  rw [← HL.out.1] at hfx
  have hcx1 := hcx.1
  obtain ⟨m, hm⟩ : ∃ m, m = x.length := ⟨_, rfl⟩
  have HM := Lib.hid hm
  rw [← hm] at hfx hcx1 ⊢
  clear hm hkx hb2 hcx hex h8x S1 B1
  go_wp2_with fail
  refine (HP.out.find _ _ ys a2 (HP.out.keep HT.out B2.out) S2.out.2 HB.out.2 (by rw [← HL.out.2]; omega)).mono ?_
  rintro e w3 ⟨ay, cy, y, rfl, hky, hb3, hcy, hey, h8y, _, _⟩
  have B3 := Lib.hid (bel_on B2.out hb3)
  have S3 := Lib.hid (And.intro (by_on S2.out.1 hb3) (by_on S2.out.2 hb3))
  have KX3 := Lib.hid (KX2.out.on hb3)
  have KY3 := Lib.hid hky
  have HY := Lib.hid (And.intro hey (And.intro h8y hcy.2))
  have hfy := few_of hey
  rw [← HL.out.2] at hfy
  obtain ⟨k, hk⟩ : ∃ k, k = y.length := ⟨_, rfl⟩
  have HK := Lib.hid hk
  rw [← hk] at hfy ⊢
  clear hk hky hb3 hcy hey h8y S2 B2 KX2
  have hba := bel_alloc (Below.refl w3.heap.size w3) (.cells #[] 34)
  have CX := Lib.hid (ks_cells (c := cx) (KX3.out.on hba) HX.out.2.2)
  have KY4 := Lib.hid (KY3.out.on hba)
  have HBA := Lib.hid hba
  have hsz := asize w3 (.cells #[] 34)
  rw [← HM.out] at CX
  clear hba
  have KYC : Hid (∀ W, Below w3.heap.size w3 W → CellsAt W (.slice ay k cy) k (tcl y)) := Lib.hid fun W hW => by
    have := ks_cells (c := cy) (KY3.out.on hW) HY.out.2.2
    rwa [← HK.out] at this
  have KYC : Hid (∀ W, Below w3.heap.size w3 W → CellsAt W (.slice ay k cy) k (tcl y)) := Lib.hid fun W hW => by
    have := ks_cells (c := cy) (KY3.out.on hW) HY.out.2.2
    rwa [← HK.out] at this
  have KYC : Hid (∀ W, Below w3.heap.size w3 W → CellsAt W (.slice ay k cy) k (tcl y)) := Lib.hid fun W hW => by
    have := ks_cells (c := cy) (KY3.out.on hW) HY.out.2.2
    rwa [← HK.out] at this
  have KYC : Hid (∀ W, Below w3.heap.size w3 W → CellsAt W (.slice ay k cy) k (tcl y)) := Lib.hid fun W hW => by
    have := ks_cells (c := cy) (KY3.out.on hW) HY.out.2.2
    rwa [← HK.out] at this
  have KYC : Hid (∀ W, Below w3.heap.size w3 W → CellsAt W (.slice ay k cy) k (tcl y)) := Lib.hid fun W hW => by
    have := ks_cells (c := cy) (KY3.out.on hW) HY.out.2.2
    rwa [← HK.out] at this
  go_wp2_with (first
    | (refine wpList_append_g at_tok rfl (.tmp 32) (.tmp 33) rfl w3.heap.size (.slice (some ⟨w3.heap.size, 0, none⟩) 0 0) (.slice ax m cx) 0 m [] (tcl x) rfl rfl (own_none w3 34 3) CX.out (by rw [tcl_len, HM.out]) (tcl_one _) (by omega) (by omega) (by omega) ?_; intro ao4 c4 w4 hA; have hb4 := HBA.out.trans (hA.below (own_none w3 34 3) (by omega)); rw [Nat.zero_add, List.nil_append] at hA; have HA4 := Lib.hid hA; have HB4 := Lib.hid hb4; clear hA hb4)
    | (refine wpList_append_g at_tok rfl (.tmp 34) (.tmp 35) rfl w3.heap.size (.slice ao4 m c4) (.slice ay k cy) m k (tcl x) (tcl y) rfl rfl HA4.out.own (KYC.out _ HB4.out) (by rw [tcl_len, HK.out]) (tcl_one _) HB4.out.size (by omega) (by omega) ?_; intro ao5 c5 w5 hA; have hb5 := HB4.out.trans (hA.below HA4.out.own HB4.out.size); rw [tcl_app] at hA; have KA5 := Lib.hid (own_ks (r := x ++ y) hA.own (by rw [List.length_append, HM.out, HK.out])); have HB5 := Lib.hid hb5; clear hA hb5))
  have hE := HP.out.expand w5 ao5 c5 (x ++ y) ((L : Int) + K) KA5.out (by rw [List.length_append, ← HM.out, ← HK.out]; omega) (fun u hu => by
    rcases List.mem_append.1 hu with hu | hu
    · exact fit_of HX.out.1 HX.out.2.1 u hu
    · exact fit_of HY.out.1 HY.out.2.1 u hu) (by omega)
  rw [List.length_append, ← HM.out, ← HK.out] at hE
  refine hE.mono ?_
  clear hE
  rintro e w6 ⟨hb6, h6⟩
  have hL6 : M.exL ((L : Int) + K).toNat (x ++ y) [] = .inr (xs ++ ys) := M.exL_ok (M.ex_both HX.out.1 HY.out.1) (by rw [List.length_append, ← HL.out.1, ← HL.out.2]; omega)
  obtain ⟨ao6, c6, rfl, ho6⟩ : ∃ ao6 c6, e = .returned (.tuple #[.slice ao6 (L + K) c6, .int .i64 0]) ∧ w6.ownsRow w5.heap.size 5 1 (.slice ao6 (L + K) c6) (xs ++ ys).length (u8s (xs ++ ys)) := by
    rcases h6 with ⟨er, h, _⟩ | ⟨m, a2, c2, h, he, ho⟩
    · rw [hL6] at h; cases h
    · rw [hL6] at h; cases h; rw [List.length_append, ← HL.out.1, ← HL.out.2] at he; exact ⟨a2, c2, he, by have h7 := ho; rw [List.length_append, ← HL.out.1, ← HL.out.2] at h7 ⊢; exact h7⟩
  have hb36 := bel_on HB5.out hb6
  have B6 := Lib.hid (bel_on B3.out hb36)
  have S6 := Lib.hid (And.intro (by_on S3.out.1 hb36) (by_on S3.out.2 hb36))
  have KX6 := Lib.hid (KX3.out.on hb36)
  have Z6 : Hid (BySl w6 (.slice ao6 (L + K) c6) (xs ++ ys)) := Lib.hid (BySl.own ho6)
  clear h6 hL6 hb6 hb36 ho6 KA5 HB5 HA4 HB4 KYC CX KY4 HBA hsz B3 S3 KX3 KY3
  go_wp2_with fail
  have hC := copy7_any S6.out.1 (by rw [← HL.out.1]; omega)
  rw [← HL.out.1] at hC
  refine hC.mono ?_
  clear hC
  rintro e w7 ⟨ao7, c7, rfl, ho7, hb7⟩
  have B7 := Lib.hid (bel_on B6.out hb7)
  have S7 := Lib.hid (And.intro (by_on S6.out.1 hb7) (by_on S6.out.2 hb7))
  have KX7 := Lib.hid (KX6.out.on hb7)
  have Z7 := Lib.hid (by_on Z6.out hb7)
  have O7 : Hid (w7.ownsRow w6.heap.size 5 1 (.slice ao7 L c7) xs.length (u8s xs)) := Lib.hid (by have h7 := ho7; rw [HL.out.1] at h7 ⊢; exact h7)
  have HB67 := Lib.hid hb7
  have h67 := hb7.size
  clear ho7 hb7
  go_wp2_with (refine wpList_append_xg (by rfl) (.tmp 52) (.tmp 53) rfl w6.heap.size (.slice ao7 L c7) (.slice bo K c2) xs ys rfl rfl O7.out S7.out.2 h67 (by rw [← HL.out.1, ← HL.out.2]; omega) ?_; intro ao8 c8 w8 hA; have hb78 := hA.touch; rw [List.length_append, ← HL.out.1, ← HL.out.2] at hA; have HA8 := Lib.hid hA; rw [List.length_append, ← HL.out.1, ← HL.out.2]; clear hA hb78)
  have hT78 : Touch (fun k => w6.heap.size ≤ k) w7 w8 := HA8.out.touch.mono fun k hk => (O7.out.lt k hk).1
  have hB68 : Below w6.heap.size w6 w8 := HB67.out.trans (hT78.below h67 fun k hk => hk)
  have B8 := Lib.hid (bel_on B6.out hB68)
  have S8 := Lib.hid (And.intro (by_on S6.out.1 hB68) (by_on S6.out.2 hB68))
  have KX8 := Lib.hid (KX6.out.on hB68)
  have Z8 := Lib.hid (by_on Z6.out hB68)
  have O8 : Hid (BySl w8 (.slice ao8 (L + K) c8) (xs ++ ys)) := Lib.hid (BySl.own HA8.out.own)
  clear hT78 hB68 HA8 O7 HB67 h67 B6 S6 KX6 Z6 B7 S7 KX7 Z7
  refine (same_any Z8.out O8.out (by rw [List.length_append, ← HL.out.1, ← HL.out.2]; omega)).mono ?_
  rintro e w9 ⟨he, nq, hw⟩
  rw [decide_eq_true rfl] at he
  subst he
  have hb9 := below_drewN (Below.refl w8.heap.size w8) nq
  rw [← hw] at hb9
  have B9 := Lib.hid (bel_on B8.out hb9)
  have S9 := Lib.hid (And.intro (by_on S8.out.1 hb9) (by_on S8.out.2 hb9))
  have KX9 := Lib.hid (KX8.out.on hb9)
  clear hb9 hw B8 S8 KX8 Z8 O8
  have HSX := Lib.hid (sum_of HX.out.1)
  go_wp2
  go_loopg [12, 13] (m + 1) (fun gm v12 v13 wr => ∃ i s : Nat, i ≤ m ∧ m + 1 - i ≤ gm ∧ Hid (s = M.sum (x.take i)) ∧ v12 = .int .i64 (s : Nat) ∧ v13 = .int .i64 (i : Nat) ∧ Hid (Below w9.heap.size w9 wr))
  case atStart => exact ⟨0, 0, Nat.zero_le _, Nat.le_refl _, Lib.hid (by simp [M.sum]), rfl, rfl, Lib.hid (Below.refl _ _)⟩
  case round =>
    obtain ⟨i, s, hi, hgm, HS1, rfl, rfl, HBR⟩ := hrel
    by_cases hlt : i < m
    · have hlt' : (i : Int) < m := by omega
      have hix : i < x.length := by rw [← HM.out]; exact hlt
      obtain ⟨b, off, rfl, _, g2, _⟩ := (KX9.out.on HBR.out).at hix
      obtain ⟨l, hle⟩ : ∃ l, l = (tk x i).len := ⟨_, rfl⟩
      rw [← hle] at g2
      have hRt := ex_right HX.out.1 _ (tk_mem x i hix)
      have hlb : l ≤ 258 := by
        unfold M.Right at hRt
        rw [← hle] at hRt
        omega
      obtain ⟨s2, hs2⟩ : ∃ s2, s2 = M.sum (x.take (i + 1)) := ⟨_, rfl⟩
      have hst := sum_step x i hix
      rw [← hs2, ← HS1.out] at hst
      have hte : M.tells (tk x i) = max l 1 := by unfold M.tells; rw [hle]
      rw [hte] at hst
      obtain ⟨hex1, hexl⟩ := M.ex_first HX.out.1 (i + 1)
      rw [← hs2] at hex1 hexl
      rw [← HL.out.1] at hexl
      have HEX1 := Lib.hid hex1
      have HS2 := Lib.hid hs2
      have hcx2 : (i : Int) + 1 ≤ cx := by omega
      have hcc : L ≤ c := by
        rcases S9.out.1 with ⟨hh, hh2⟩ | ⟨ad, c', hh, hh2, _⟩
        · have := HL.out.1
          rw [hh2] at this
          simp at this
          omega
        · simp only [Value.slice.injEq] at hh
          have := HL.out.1
          omega
      have hs2c : (s2 : Int) ≤ c := by omega
      have e1 : IntKind.i64.wrap ((i : Int) * 3) = (i : Int) * 3 := by rw [IntKind.wrap_i64]; omega
      have hsb : s ≤ 1000 ∧ s2 ≤ 1000 := by omega
      clear hRt hle hex1 hs2 hte hix
      by_cases hlen : l = 0
      · subst hlen
        have hst2 : s2 = s + 1 := hst
        clear hst
        have e12 : (s : Int) + 1 = (s2 : Int) := by omega
        have HC2 := Lib.hid (HP.out.expand wr (some ⟨b, off, none⟩) cx (x.take (i + 1)) (s2 : Int) ((KX9.out.on HBR.out).take (i + 1)) (by rw [List.length_take]; omega) ((fit_of HX.out.1 HX.out.2.1).take _) (by omega))
        rw [List.length_take, Nat.min_eq_left (show i + 1 ≤ x.length by rw [← HM.out]; omega)] at HC2
        clear hst2
        go_wp2_with fail
        refine HC2.out.mono ?_
        rintro e w10 ⟨hb10, h10⟩
        have hL10 : M.exL ((s2 : Int)).toNat (x.take (i + 1)) [] = .inr (xs.take s2) := M.exL_ok HEX1.out (by rw [List.length_take]; omega)
        obtain ⟨ao10, c10, rfl, ho10⟩ : ∃ ao10 c10, e = .returned (.tuple #[.slice ao10 s2 c10, .int .i64 0]) ∧ BySl w10 (.slice ao10 s2 c10) (xs.take s2) := by
          have hlt : (xs.take s2).length = s2 := by rw [List.length_take, ← HL.out.1]; omega
          rcases h10 with ⟨er, h, _⟩ | ⟨mm, a2, c2, h, he, ho⟩
          · rw [hL10] at h; cases h
          · rw [hL10] at h; cases h; rw [hlt] at he; exact ⟨a2, c2, he, by have h7 := BySl.own ho; rw [hlt] at h7; exact h7⟩
        have HBR2 := Lib.hid (bel_on HBR.out hb10)
        have HP10 := Lib.hid ho10
        have HAT := Lib.hid (by_take7 (by_on S9.out.1 HBR2.out) s2 (by rw [← HL.out.1]; omega))
        have hs2L : decide ((L : Int) < s2) = false := by simp; omega
        have hs2L' : decide (L < s2) = false := by simp; omega
        clear h10 hL10 hb10 ho10 HC2
        go_wp2_with fail
        refine (same_any HP10.out HAT.out (by rw [List.length_take]; omega)).mono ?_
        rintro e w11 ⟨he, nq11, hw⟩
        rw [decide_eq_true rfl] at he
        subst he
        have hb11 := below_drewN (Below.refl w10.heap.size w10) nq11
        rw [← hw] at hb11
        have HBR3 := Lib.hid (bel_on HBR2.out hb11)
        clear hb11 hw HAT HP10
        go_wp2
        go_roundg (m + 1 - (i + 1))
        case measure => omega
        case rel => exact ⟨i + 1, s2, by omega, Nat.le_refl _, HS2, rfl, by simp, HBR3⟩
      · have hl1 : (1 : Int) ≤ l := by omega
        have hst2 : s2 = s + l := by omega
        have hmx : max (l : Int) 1 = l := by omega
        clear hst
        have e12 : (s : Int) + l = (s2 : Int) := by omega
        have HC2 := Lib.hid (HP.out.expand wr (some ⟨b, off, none⟩) cx (x.take (i + 1)) (s2 : Int) ((KX9.out.on HBR.out).take (i + 1)) (by rw [List.length_take]; omega) ((fit_of HX.out.1 HX.out.2.1).take _) (by omega))
        rw [List.length_take, Nat.min_eq_left (show i + 1 ≤ x.length by rw [← HM.out]; omega)] at HC2
        clear hst2 hlen
        go_wp2_with fail
        refine HC2.out.mono ?_
        rintro e w10 ⟨hb10, h10⟩
        have hL10 : M.exL ((s2 : Int)).toNat (x.take (i + 1)) [] = .inr (xs.take s2) := M.exL_ok HEX1.out (by rw [List.length_take]; omega)
        obtain ⟨ao10, c10, rfl, ho10⟩ : ∃ ao10 c10, e = .returned (.tuple #[.slice ao10 s2 c10, .int .i64 0]) ∧ BySl w10 (.slice ao10 s2 c10) (xs.take s2) := by
          have hlt : (xs.take s2).length = s2 := by rw [List.length_take, ← HL.out.1]; omega
          rcases h10 with ⟨er, h, _⟩ | ⟨mm, a2, c2, h, he, ho⟩
          · rw [hL10] at h; cases h
          · rw [hL10] at h; cases h; rw [hlt] at he; exact ⟨a2, c2, he, by have h7 := BySl.own ho; rw [hlt] at h7; exact h7⟩
        have HBR2 := Lib.hid (bel_on HBR.out hb10)
        have HP10 := Lib.hid ho10
        have HAT := Lib.hid (by_take7 (by_on S9.out.1 HBR2.out) s2 (by rw [← HL.out.1]; omega))
        have hs2L : decide ((L : Int) < s2) = false := by simp; omega
        have hs2L' : decide (L < s2) = false := by simp; omega
        clear h10 hL10 hb10 ho10 HC2
        go_wp2_with fail
        refine (same_any HP10.out HAT.out (by rw [List.length_take]; omega)).mono ?_
        rintro e w11 ⟨he, nq11, hw⟩
        rw [decide_eq_true rfl] at he
        subst he
        have hb11 := below_drewN (Below.refl w10.heap.size w10) nq11
        rw [← hw] at hb11
        have HBR3 := Lib.hid (bel_on HBR2.out hb11)
        clear hb11 hw HAT HP10
        go_wp2
        go_roundg (m + 1 - (i + 1))
        case measure => omega
        case rel => exact ⟨i + 1, s2, by omega, Nat.le_refl _, HS2, rfl, by simp, HBR3⟩
    · obtain rfl : i = m := by omega
      have hsL : s = L := by
        rw [HS1.out, HM.out, List.take_length, HSX.out, ← HL.out.1]
      have B10 := Lib.hid (bel_on B9.out HBR.out)
      clear HS1 HBR
      subst hsL
      go_wp2
      go_ret
      exact ⟨by simp, B10.out⟩
end Go.Proofs.YtjjjchdocnoabaaDoor
