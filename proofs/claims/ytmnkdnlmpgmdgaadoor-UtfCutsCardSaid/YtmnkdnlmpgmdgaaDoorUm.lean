/-
  The law on signs that are put and told again: the walk.
-/
import Derived.Test.YtmnkdnlmpgmdgaaDoorUl
namespace Go.Proofs.YtmnkdnlmpgmdgaaDoor
open Go.RowKit U
set_option maxRecDepth 100000

theorem Sl.touch {S : Nat → Prop} {w w' : World} {ao : Option Addr} {c : Nat} {xs : List Nat} (h : Sl w ao c xs) (ht : Touch S w w') (hs : ∀ ad, ao = some ad → ¬ S ad.block) : Sl w' ao c xs :=
  ⟨h.src.touch ht (fun _ _ he _ => hs _ he), h.le, h.big, h.nil, h.bs⟩
/-- Bytes in newer memory stay while an elder row of the call's own grows. -/
theorem sl_apd {w0 w2 w3 : World} {base e sz n m : Nat} {v v' : Value} {us ys : List Value} {a : Option Addr} {c : Nat} {xs : List Nat} (hA : Apd w2 base e sz v n ys v' w3) (ho : w0.ownsRow base e sz v m us) (hs : Sl w2 a c xs) (hf : ∀ ad, a = some ad → w0.heap.size ≤ ad.block) : Sl w3 a c xs :=
  hs.touch hA.touch fun ad he hk => by
    have h1 := hf ad he
    have h2 := (ho.lt _ hk).2
    omega
theorem own_empty39 (w : World) : (w.alloc (.cells #[] 21)).ownsRow w.heap.size 21 1 (.slice (some ⟨w.heap.size, 0, none⟩) 0 0) 0 (r32 []) := own_empty w 21 1

set_option maxHeartbeats 6400000 in
theorem back_main (ao : Option Addr) (c : Nat) (zs : List Int) (w : World) (hT : TU w) (h : RS w ao zs) (hm : zs.length ≤ 300) :
    Calls Tryd.prog 5 #[.slice ao zs.length c] w fun e w' => e = .returned (.bool true) ∧ Below w.heap.size w w' := by
  have KA := Lib.hid (alive_any w hT)
  have HT := Lib.hid hT
  have HR := Lib.hid h
  obtain ⟨n, hn⟩ : ∃ n, n = zs.length := ⟨_, rfl⟩
  have HN := Lib.hid hn
  rw [← hn] at hm ⊢
  have e1 : ¬ (300 : Int) < n := by omega
  clear hT h hn
  go_enter Tryd.func5, Tryd.ntmps5
  go_wp2_with (go_at_call 8; (with_reducible refine KA.out.mono ?_); rintro e w1 ⟨rfl, hb⟩; have HB1 := Lib.hid hb; clear hb)
  have HB0 : Hid (Below w.heap.size w ((w1.alloc (.cells #[] 5)).alloc (.cells #[] 21))) := Lib.hid ((HB1.out.alloc HB1.out.size _).alloc (by rw [alloc_size]; have := HB1.out.size; omega) _)
  have HS0 : Hid (Sl ((w1.alloc (.cells #[] 5)).alloc (.cells #[] 21)) (some ⟨w1.heap.size, 0, none⟩) 0 []) := Lib.hid ⟨.inl rfl, Nat.le_refl _, Nat.zero_le _, (fun h => by cases h), (fun x hx => by cases hx)⟩
  have HO0 : Hid (((w1.alloc (.cells #[] 5)).alloc (.cells #[] 21)).ownsRow w.heap.size 21 1 (.slice (some ⟨w1.heap.size + 1, 0, none⟩) 0 0) 0 (r32 [])) := Lib.hid (by
    have := own_empty39 (w1.alloc (.cells #[] 5))
    rw [alloc_size] at this
    exact own_base this (by have := HB1.out.size; omega))
  go_loopw [3, 4, 5, 6] (fun v3 v4 v5 v6 wr => ∃ (i : Nat) (a : Option Addr) (c' : Nat) (sa : Option Addr) (sc : Nat) (bs ss : List Nat), i ≤ n ∧ v3 = .slice a bs.length c' ∧ v4 = .slice sa ss.length sc ∧ v5 = .bool (ss.all charP) ∧ v6 = .int .i64 i ∧ Hid (bs = byt ss ∧ ss = sgn (zs.take i)) ∧ Sl wr a c' bs ∧ wr.ownsRow w.heap.size 21 1 (.slice sa ss.length sc) ss.length (r32 ss) ∧ Below w.heap.size w wr) (fun _ _ _ v6 _ => n - (intOf v6).toNat)
  case atStart => exact ⟨0, _, 0, _, 0, [], [], Nat.zero_le _, rfl, rfl, rfl, rfl, Lib.hid ⟨rfl, rfl⟩, HS0.out, HO0.out, HB0.out⟩
  case round =>
    clear HB0 HS0 HO0
    obtain ⟨i, a, c', sa, sc, bs, ss, hi, rfl, rfl, rfl, rfl, hrel, hsl, hown, hbw⟩ := hrel
    have HSL := Lib.hid hsl
    have HOW := Lib.hid hown
    have HB := Lib.hid hbw
    clear hsl hown hbw
    by_cases hlt : i < n
    · have hii : (i : Int) < n := by omega
      have hiz : i < zs.length := by rw [← HN.out]; exact hlt
      obtain ⟨b, off, rfl, hcell0⟩ := HR.out.at hiz
      have hcl : ∀ W, Below w.heap.size w W → W.cell? ⟨b, off + i, none⟩ = some (.int .i32 (zs.getD i 0)) := fun W hW => (hW.cell (World.block_lt_of_cell? w _ hcell0)).trans hcell0
      have hcell := hcl wr HB.out
      clear hcell0
      have hsy := @sgn_yes zs i hiz
      have hsn := @sgn_no zs i hiz
      obtain ⟨z, hz⟩ : ∃ z, z = zs.getD i 0 := ⟨_, rfl⟩
      rw [← hz] at hcell hsy hsn hcl
      have HCL := Lib.hid hcl
      clear hcl
      have hss : ss.length ≤ 300 := by rw [hrel.out.2]; have := sgn_len (zs.take i); rw [List.length_take] at this; omega
      have hbs : bs.length ≤ 1200 := by rw [hrel.out.1]; have := byt_len ss; omega
      have KP := Put_any a c' bs z wr HSL.out (by omega)
      unfold PutTo at KP
      clear hz hiz
      cases hv : Lib.validRune z with
      | false =>
        rw [hv, putL_no hv] at KP
        have KP := Lib.hid KP
        have HREL : Hid (bs = byt ss ∧ ss = sgn (zs.take (i + 1))) := Lib.hid ⟨hrel.out.1, by rw [hsn hv]; exact hrel.out.2⟩
        obtain ⟨q, hq⟩ : ∃ q, q = ss.all charP := ⟨_, rfl⟩
        obtain ⟨B, hB⟩ : ∃ B, B = bs.length := ⟨_, rfl⟩
        obtain ⟨S, hS⟩ : ∃ S, S = ss.length := ⟨_, rfl⟩
        rw [← hB] at KP ⊢
        rw [← hS] at HOW ⊢
        rw [← hq]
        have HQ := Lib.hid hq
        have HBl := Lib.hid hB
        have HSl := Lib.hid hS
        clear hv hsy hsn hrel hq hB hS
        go_wp2_with (go_at_call 15; (with_reducible refine KP.out.mono ?_); rintro e w2 ⟨a2, c2, rfl, hs2, hb2, _⟩; have HS2 := Lib.hid hs2; have HB2 := Lib.hid (HB.out.trans (hb2.mono HB.out.size)); have HO2 := Lib.hid (ownsRow_below HOW.out hb2); clear hs2 hb2)
        refine ⟨⟨i + 1, a2, c2, sa, sc, bs, ss, by omega, by rw [← HBl.out], by rw [← HSl.out], by rw [← HQ.out], by go_num, HREL, HS2.out, by rw [← HSl.out]; exact HO2.out, HB2.out⟩, ?_⟩
        simp [intOf]; omega
      | true =>
        obtain ⟨v, rfl, hsv⟩ := sign_of hv
        have hput : putL bs (v : Int) = bs ++ enc v := by unfold putL; rw [if_pos hv]; rfl
        rw [hv, hput] at KP
        have hsy := hsy hv
        have hnat : ((v : Int)).toNat = v := rfl
        rw [hnat] at hsy
        have hrb : bs ++ enc v = byt (ss ++ [v]) := by rw [byt_app, byt_one, ← hrel.out.1]
        obtain ⟨bs2, hbs2⟩ : ∃ bs2, bs2 = bs ++ enc v := ⟨_, rfl⟩
        rw [← hbs2] at KP hrb
        have HREL : Hid (bs2 = byt (ss ++ [v]) ∧ ss ++ [v] = sgn (zs.take (i + 1))) := Lib.hid ⟨hrb, by rw [hsy, ← hrel.out.2]⟩
        obtain ⟨B, hB⟩ : ∃ B, B = bs.length := ⟨_, rfl⟩
        obtain ⟨B2, hB2⟩ : ∃ B2, B2 = bs2.length := ⟨_, rfl⟩
        obtain ⟨S, hS⟩ : ∃ S, S = ss.length := ⟨_, rfl⟩
        rw [← hB, ← hB2] at KP
        rw [← hB, ← hS]
        rw [← hS] at HOW hss
        have KP := Lib.hid KP
        have HBl := Lib.hid hB2
        have HSl := Lib.hid hS
        have hall := all_snoc charP ss v
        have KC := Lib.hid fun W => Char_any (v : Int) W
        obtain ⟨r, hr⟩ : ∃ r, r = wth charL (v : Int) := ⟨_, rfl⟩
        rw [← hr] at KC
        rw [show charP v = r from hr.symm] at hall
        obtain ⟨q, hq⟩ : ∃ q, q = ss.all charP := ⟨_, rfl⟩
        rw [← hq] at hall ⊢
        have HALL := Lib.hid hall
        clear hv hsy hsn hrel hq hB hS hB2 hput hrb hbs2 hnat hall hr hbs
        cases q with
        | true =>
          have HQ : Hid ((ss ++ [v]).all charP = r) := Lib.hid (by rw [HALL.out]; rfl)
          go_wp2_with (first
            | (go_at_call 15; (with_reducible refine KP.out.mono ?_); rintro e w2 ⟨a2, c2, rfl, hs2, hb2, hf2⟩; have HS2 := Lib.hid hs2; have HF2 := Lib.hid hf2; have HB2 := Lib.hid (HB.out.trans (hb2.mono HB.out.size)); have HO2 := Lib.hid (ownsRow_below HOW.out hb2); have hc2 := HCL.out w2 HB2.out; clear hs2 hb2 hf2)
            | (at_builtin; refine wpList_append_x at39 rfl (.tmp 38) (.tmp 43) rfl w.heap.size (.slice sa S sc) _ S 1 (r32 ss) [.int .i32 (v : Nat)] rfl rfl (ownsRow_below HO2.out ((Below.refl _ _).alloc (Nat.le_refl _) _)) (cells_one _ _ _) rfl (by intro u hu; rw [List.mem_singleton] at hu; subst hu; rfl) (by have := HB2.out.size; rw [alloc_size]; omega) (by omega) (by omega) ?_; intro sa2 sc2 w3 hA; have HA := Lib.hid hA.alloc; have HB3 := Lib.hid (HB2.out.trans (HA.out.below HO2.out HB2.out.size)); have HS3 := Lib.hid (sl_apd HA.out HOW.out HS2.out HF2.out); have hc3 := HCL.out w3 HB3.out; clear hA)
            | (go_at_call 18; (with_reducible refine (KC.out w3).mono ?_); rintro e w4 ⟨rfl, hb4⟩; have HB4 := Lib.hid (HB3.out.trans (hb4.mono HB3.out.size)); have HS4 := Lib.hid (HS3.out.below hb4); have HO4 := Lib.hid (ownsRow_below HA.out.own hb4); clear hb4))
          refine ⟨⟨i + 1, a2, c2, sa2, sc2, bs2, ss ++ [v], by omega, by rw [← HBl.out], by rw [List.length_append, ← HSl.out]; rfl, by rw [HQ.out], by go_num, HREL, HS4.out, by rw [List.length_append, ← HSl.out, ← r32_app]; exact HO4.out, HB4.out⟩, ?_⟩
          simp [intOf]; omega
        | false =>
          have HQ : Hid ((ss ++ [v]).all charP = false) := Lib.hid (by rw [HALL.out]; rfl)
          go_wp2_with (first
            | (go_at_call 15; (with_reducible refine KP.out.mono ?_); rintro e w2 ⟨a2, c2, rfl, hs2, hb2, hf2⟩; have HS2 := Lib.hid hs2; have HF2 := Lib.hid hf2; have HB2 := Lib.hid (HB.out.trans (hb2.mono HB.out.size)); have HO2 := Lib.hid (ownsRow_below HOW.out hb2); have hc2 := HCL.out w2 HB2.out; clear hs2 hb2 hf2)
            | (at_builtin; refine wpList_append_x at39 rfl (.tmp 38) (.tmp 43) rfl w.heap.size (.slice sa S sc) _ S 1 (r32 ss) [.int .i32 (v : Nat)] rfl rfl (ownsRow_below HO2.out ((Below.refl _ _).alloc (Nat.le_refl _) _)) (cells_one _ _ _) rfl (by intro u hu; rw [List.mem_singleton] at hu; subst hu; rfl) (by have := HB2.out.size; rw [alloc_size]; omega) (by omega) (by omega) ?_; intro sa2 sc2 w3 hA; have HA := Lib.hid hA.alloc; have HB3 := Lib.hid (HB2.out.trans (HA.out.below HO2.out HB2.out.size)); have HS3 := Lib.hid (sl_apd HA.out HOW.out HS2.out HF2.out); have hc3 := HCL.out w3 HB3.out; clear hA))
          have HO3 := Lib.hid HA.out.own
          refine ⟨⟨i + 1, a2, c2, sa2, sc2, bs2, ss ++ [v], by omega, by rw [← HBl.out], by rw [List.length_append, ← HSl.out]; rfl, by rw [HQ.out], by go_num, HREL, HS3.out, by rw [List.length_append, ← HSl.out, ← r32_app]; exact HO3.out, HB3.out⟩, ?_⟩
          simp [intOf]; omega
    · obtain rfl : i = n := by omega
      have hbss := hrel.out.1
      have hsg : ∀ v ∈ ss, isSign v := by rw [hrel.out.2]; exact sgn_sign _
      have hss : ss.length ≤ 300 := by rw [hrel.out.2]; have := sgn_len (zs.take i); rw [List.length_take] at this; omega
      have hbs : bs.length ≤ 1200 := by rw [hbss]; have := byt_len ss; omega
      have HNX := Lib.hid fun k hk => @nx_at ss hsg k hk
      have HSN := Lib.hid fun k hk => @byt_snoc ss k hk
      have hchk := alA_signs charP hsg
      rw [← hbss] at hchk
      have HPL : Hid (∀ k, k ≤ ss.length → (byt (ss.take k)).length ≤ bs.length) := Lib.hid fun k hk => by
        rw [hbss]
        conv => rhs; rw [← List.take_append_drop k ss, byt_app, List.length_append]
        omega
      have HPE : Hid ((byt (ss.take ss.length)).length = bs.length) := Lib.hid (by rw [List.take_length, ← hbss])
      have HBS := Lib.hid hbss
      obtain ⟨x, y, hxy⟩ : ∃ x y, alA charP bs = (x, y) := ⟨_, _, rfl⟩
      have KCk := Lib.hid fun (W : World) (hW : Below wr.heap.size wr W) => Check_any a c' bs W (HSL.out.below hW) (by omega) (HT.out.grow (HB.out.trans (hW.mono HB.out.size)))
      rw [hxy] at KCk hchk
      simp only at KCk hchk
      have KN := Lib.hid fun (W : World) (hW : Below wr.heap.size wr W) (p : Nat) => Next_any a c' bs p W (HSL.out.below hW) (HT.out.grow (HB.out.trans (hW.mono HB.out.size)))
      obtain ⟨B, hB⟩ : ∃ B, B = bs.length := ⟨_, rfl⟩
      obtain ⟨S, hS⟩ : ∃ S, S = ss.length := ⟨_, rfl⟩
      rw [← hB] at hbs HPL HPE KCk KN ⊢
      rw [← hS] at hss HOW HPL HPE ⊢
      rw [← hchk]
      have HSl := Lib.hid hS
      clear hbss hsg hrel hchk hxy hB hS
      obtain ⟨w5, hw5⟩ : ∃ w5 : World, w5 = wr := ⟨_, rfl⟩
      subst hw5
      go_wp2
      go_loopw [9, 10] (fun v9 v10 wr2 => ∃ k : Nat, k ≤ S ∧ v9 = .int .i64 ((byt (ss.take k)).length : Nat) ∧ v10 = .int .i64 k ∧ Below w5.heap.size w5 wr2) (fun _ v10 _ => S - (intOf v10).toNat)
      case atStart => exact ⟨0, Nat.zero_le _, rfl, rfl, Below.refl _ _⟩
      case round =>
        obtain ⟨k, hk, rfl, rfl, hbw⟩ := hrel
        have HBW := Lib.hid hbw
        clear hbw
        by_cases hlt : k < S
        · have hkk : (k : Int) < S := by omega
          have hks : k < ss.length := by rw [← HSl.out]; exact hlt
          obtain ⟨g, rfl, hcell⟩ := own32_cell (ownsRow_below HOW.out HBW.out) hks
          have hn := HNX.out k hks
          have hsn := HSN.out k hks
          have hpl := HPL.out k (by omega)
          have hpl2 := HPL.out (k + 1) (by omega)
          have hep := enc_pos (ss.getD k 0)
          have KN1 := KN.out wr HBW.out (byt (ss.take k)).length
          rw [nxF_nat, HBS.out, hn] at KN1
          obtain ⟨v, hv⟩ : ∃ v, v = ss.getD k 0 := ⟨_, rfl⟩
          rw [← hv] at hcell hsn hep KN1
          obtain ⟨ev, hev⟩ : ∃ ev, ev = (enc v).length := ⟨_, rfl⟩
          obtain ⟨p, hp⟩ : ∃ p, p = (byt (ss.take k)).length := ⟨_, rfl⟩
          obtain ⟨p2, hp2⟩ : ∃ p2, p2 = (byt (ss.take (k + 1))).length := ⟨_, rfl⟩
          rw [← hev] at hsn hep KN1
          rw [← hp] at hsn hpl KN1 ⊢
          rw [← hp2] at hsn hpl2
          have KN1 := Lib.hid KN1
          have HP2 := Lib.hid hp2
          have hsum : IntKind.i64.wrap ((p : Int) + ev) = (p2 : Int) := by rw [IntKind.wrap_i64]; omega
          have hev0 : ¬ (ev : Int) = 0 := by omega
          have hq1 : k + 1 ≤ S := by omega
          have hq2 : S - (k + 1) < S - k := by omega
          clear hks hn hsn hpl hpl2 hep hv hev hp hp2
          go_wp2_with (go_at_call 10; (with_reducible refine KN1.out.mono ?_); rintro e w6 ⟨rfl, hb6⟩; have HB6 := Lib.hid (HBW.out.trans (hb6.mono HBW.out.size)); have hc6 := (hb6.cell (World.block_lt_of_cell? wr _ hcell)).trans hcell; clear hb6)
          refine ⟨⟨k + 1, hq1, by rw [HP2.out], by go_num, HB6.out⟩, ?_⟩
          simp [intOf]; omega
        · obtain rfl : k = S := by omega
          have KC1 := Lib.hid (KCk.out wr HBW.out)
          rw [HPE.out]
          go_wp2_with (go_at_call 12; (with_reducible refine KC1.out.mono ?_); rintro e w6 ⟨rfl, hb6⟩; have HB6 := Lib.hid (HB.out.trans ((HBW.out.trans (hb6.mono HBW.out.size)).mono HB.out.size)); clear hb6)
          go_ret
          exact ⟨by simp, HB6.out⟩
end Go.Proofs.YtmnkdnlmpgmdgaaDoor
