/-
  The law on bytes of signs that are cut: the walk.
-/
import Derived.Test.YtmnkdnlmpgmdgaaDoorUq
import Derived.Test.YtmnkdnlmpgmdgaaDoorUm
namespace Go.Proofs.YtmnkdnlmpgmdgaaDoor
open Go.RowKit U
set_option maxRecDepth 100000

def r64 (l : List Nat) : List Value := l.map fun x : Nat => Value.int .i64 (x : Int)
theorem r64_len (l : List Nat) : (r64 l).length = l.length := by simp [r64]
theorem r64_app (a b : List Nat) : r64 a ++ r64 b = r64 (a ++ b) := by simp [r64]
theorem at42 : AT 42 3 (.int .i64 0) 1 8 := ⟨by kernel_rfl, by kernel_rfl, rfl, by omega⟩
theorem own64_cell {w : World} {base : Nat} {a : Option Addr} {n c : Nat} {ss : List Nat} (h : w.ownsRow base 3 1 (.slice a n c) n (r64 ss)) {k : Nat} (hk : k < ss.length) : ∃ g, a = some ⟨g, 0, none⟩ ∧ w.cell? ⟨g, k, none⟩ = some (.int .i64 (ss.getD k 0 : Nat)) := by
  have hl : (r64 ss).length = n := by have := h.1; omega
  rcases h.2 with ⟨h0, h1⟩ | ⟨g, cap, cur, hv, hb', hh, hnc, hcm, hcs, htake⟩
  · rw [r64_len] at hl; omega
  · injection hv with e1 e2 e3
    subst e1
    refine ⟨g, rfl, ?_⟩
    have := h.cells (g := g) rfl k (.int .i64 (ss.getD k 0 : Nat)) (by simp [r64, List.getD, hk])
    rwa [Addr.add_lit, Nat.zero_add] at this
/-- A slice and a row of the call's own don't share a block. -/
def Aside (a : Option Addr) (v : Value) : Prop := ∀ ad, a = some ad → v.ownBlock ≠ some ad.block

set_option maxHeartbeats 6400000 in
theorem cuts_main (ao : Option Addr) (c : Nat) (zs : List Int) (cut : Int) (w : World) (hT : TU w) (h : RS w ao zs) (hm : zs.length ≤ 200) :
    Calls Tryd.prog 7 #[.slice ao zs.length c, .int .i64 cut] w fun e w' => e = .returned (.bool true) ∧ Below w.heap.size w w' := by
  have KA := Lib.hid (alive_any w hT)
  have HT := Lib.hid hT
  have HR := Lib.hid h
  obtain ⟨n, hn⟩ : ∃ n, n = zs.length := ⟨_, rfl⟩
  have HN := Lib.hid hn
  rw [← hn] at hm ⊢
  have e1 : ¬ (200 : Int) < n := by omega
  clear hT h hn
  go_enter Tryd.func7, Tryd.ntmps7
  go_wp2_with (go_at_call 8; (with_reducible refine KA.out.mono ?_); rintro e w1 ⟨rfl, hb⟩; have HB1 := Lib.hid hb; clear hb)
  have HB0 : Hid (Below w.heap.size w ((w1.alloc (.cells #[] 5)).alloc (.cells #[] 3))) := Lib.hid ((HB1.out.alloc HB1.out.size _).alloc (by rw [alloc_size]; have := HB1.out.size; omega) _)
  have HS0 : Hid (Sl ((w1.alloc (.cells #[] 5)).alloc (.cells #[] 3)) (some ⟨w1.heap.size, 0, none⟩) 0 []) := Lib.hid ⟨.inl rfl, Nat.le_refl _, Nat.zero_le _, (fun h => by cases h), (fun x hx => by cases hx)⟩
  have HO0 : Hid (((w1.alloc (.cells #[] 5)).alloc (.cells #[] 3)).ownsRow w.heap.size 3 1 (.slice (some ⟨w1.heap.size + 1, 0, none⟩) 0 0) 0 (r64 [])) := Lib.hid (by
    have := own_empty (w1.alloc (.cells #[] 5)) 3 1
    rw [alloc_size] at this
    exact own_base this (by have := HB1.out.size; omega))
  have HA0 : Hid (Aside (some ⟨w1.heap.size, 0, none⟩) (.slice (some ⟨w1.heap.size + 1, 0, none⟩) 0 0)) := Lib.hid fun ad he hk => by
    injection he with he; subst he
    have : w1.heap.size + 1 = w1.heap.size := Option.some.inj hk
    omega
  go_loopw [5, 6, 7] (fun v5 v6 v7 wr => ∃ (i : Nat) (a : Option Addr) (c' : Nat) (sa : Option Addr) (sc : Nat) (bs ss : List Nat), i ≤ n ∧ v5 = .slice a bs.length c' ∧ v6 = .slice sa ss.length sc ∧ v7 = .int .i64 i ∧ Hid (bs = byt ss ∧ ss = chs (zs.take i)) ∧ Sl wr a c' bs ∧ wr.ownsRow w.heap.size 3 1 (.slice sa ss.length sc) ss.length (r64 (sts ss)) ∧ Aside a (.slice sa ss.length sc) ∧ Below w.heap.size w wr) (fun _ _ v7 _ => n - (intOf v7).toNat)
  case atStart => exact ⟨0, _, 0, _, 0, [], [], Nat.zero_le _, rfl, rfl, rfl, Lib.hid ⟨rfl, rfl⟩, HS0.out, HO0.out, HA0.out, HB0.out⟩
  case round =>
    clear HB0 HS0 HO0 HA0
    obtain ⟨i, a, c', sa, sc, bs, ss, hi, rfl, rfl, rfl, hrel, hsl, hown, hasd, hbw⟩ := hrel
    have HSL := Lib.hid hsl
    have HOW := Lib.hid hown
    have HAS := Lib.hid hasd
    have HB := Lib.hid hbw
    clear hsl hown hbw hasd
    by_cases hlt : i < n
    · have hii : (i : Int) < n := by omega
      have hiz : i < zs.length := by rw [← HN.out]; exact hlt
      obtain ⟨b, off, rfl, hcell0⟩ := HR.out.at hiz
      have hcl : ∀ W, Below w.heap.size w W → W.cell? ⟨b, off + i, none⟩ = some (.int .i32 (zs.getD i 0)) := fun W hW => (hW.cell (World.block_lt_of_cell? w _ hcell0)).trans hcell0
      have hcell := hcl wr HB.out
      clear hcell0
      have hsy := @chs_yes zs i hiz
      have hsn := @chs_no zs i hiz
      obtain ⟨z, hz⟩ : ∃ z, z = zs.getD i 0 := ⟨_, rfl⟩
      rw [← hz] at hcell hsy hsn hcl
      have HCL := Lib.hid hcl
      have KC := Lib.hid fun W => Char_any z W
      have hss : ss.length ≤ 200 := by rw [hrel.out.2]; have := chs_len (zs.take i); rw [List.length_take] at this; omega
      have hbs : bs.length ≤ 800 := by rw [hrel.out.1]; have := byt_len ss; omega
      clear hz hiz hcl
      cases hv : wth charL z with
      | false =>
        rw [hv] at KC
        have HREL : Hid (bs = byt ss ∧ ss = chs (zs.take (i + 1))) := Lib.hid ⟨hrel.out.1, by rw [hsn hv]; exact hrel.out.2⟩
        obtain ⟨B, hB⟩ : ∃ B, B = bs.length := ⟨_, rfl⟩
        obtain ⟨S, hS⟩ : ∃ S, S = ss.length := ⟨_, rfl⟩
        rw [← hB]
        rw [← hS] at HOW HAS ⊢
        have HBl := Lib.hid hB
        have HSl := Lib.hid hS
        clear hv hsy hsn hrel hB hS
        go_wp2_with (go_at_call 18; (with_reducible refine (KC.out wr).mono ?_); rintro e w2 ⟨rfl, hb2⟩; have HB2 := Lib.hid (HB.out.trans (hb2.mono HB.out.size)); have HS2 := Lib.hid (HSL.out.below hb2); have HO2 := Lib.hid (ownsRow_below HOW.out hb2); clear hb2)
        refine ⟨⟨i + 1, a, c', sa, sc, bs, ss, by omega, by rw [← HBl.out], by rw [← HSl.out], by go_num, HREL, HS2.out, by rw [← HSl.out]; exact HO2.out, by rw [← HSl.out]; exact HAS.out, HB2.out⟩, ?_⟩
        simp [intOf]; omega
      | true =>
        obtain ⟨v, rfl, hsv⟩ := sign_of (char_valid hv)
        have hput : putL bs (v : Int) = bs ++ enc v := by unfold putL; rw [if_pos (char_valid hv)]; rfl
        rw [hv] at KC
        have hsy := hsy hv
        have hnat : ((v : Int)).toNat = v := rfl
        rw [hnat] at hsy
        have hrb : bs ++ enc v = byt (ss ++ [v]) := by rw [byt_app, byt_one, ← hrel.out.1]
        have hst : sts (ss ++ [v]) = sts ss ++ [bs.length] := by rw [sts_snoc, hrel.out.1]
        have KP := Lib.hid fun (W : World) (hs : Sl W a c' bs) => Put_any a c' bs (v : Int) W hs (by omega)
        unfold PutTo at KP
        rw [char_valid hv, hput] at KP
        obtain ⟨bs2, hbs2⟩ : ∃ bs2, bs2 = bs ++ enc v := ⟨_, rfl⟩
        rw [← hbs2] at KP hrb
        have HREL : Hid (bs2 = byt (ss ++ [v]) ∧ ss ++ [v] = chs (zs.take (i + 1))) := Lib.hid ⟨hrb, by rw [hsy, ← hrel.out.2]⟩
        obtain ⟨B, hB⟩ : ∃ B, B = bs.length := ⟨_, rfl⟩
        obtain ⟨B2, hB2⟩ : ∃ B2, B2 = bs2.length := ⟨_, rfl⟩
        obtain ⟨S, hS⟩ : ∃ S, S = ss.length := ⟨_, rfl⟩
        rw [← hB, ← hB2] at KP
        rw [← hB] at hst
        rw [← hB, ← hS]
        rw [← hS] at HOW hss HAS
        have HBl := Lib.hid hB2
        have HSl := Lib.hid hS
        have HST := Lib.hid hst
        have HLS : Hid ((r64 (sts ss)).length = S * 1) := Lib.hid (by rw [r64_len, sts_len, Nat.mul_one]; exact hS.symm)
        clear hv hsy hsn hrel hB hS hB2 hput hrb hbs2 hnat hbs hst
        go_wp2_with (first
          | (go_at_call 18; (with_reducible refine (KC.out wr).mono ?_); rintro e w2 ⟨rfl, hb2⟩; have HB2 := Lib.hid (HB.out.trans (hb2.mono HB.out.size)); have HS2 := Lib.hid (HSL.out.below hb2); have HO2 := Lib.hid (ownsRow_below HOW.out hb2); have hcl2 := HCL.out w2 HB2.out; clear hb2)
          | (at_builtin; refine wpList_append_x at42 rfl (.tmp 31) (.tmp 34) rfl w.heap.size (.slice sa S sc) _ S 1 (r64 (sts ss)) [.int .i64 (B : Nat)] rfl rfl (ownsRow_below HO2.out ((Below.refl _ _).alloc (Nat.le_refl _) _)) (cells_one _ _ _) rfl (by intro u hu; rw [List.mem_singleton] at hu; subst hu; rfl) (by have := HB2.out.size; rw [alloc_size]; omega) (by omega) (by omega) ?_; intro sa2 sc2 w3 hA; have HA := Lib.hid hA.alloc; have HB3 := Lib.hid (HB2.out.trans (HA.out.below HO2.out HB2.out.size)); have HS3 := Lib.hid (HS2.out.touch HA.out.touch HAS.out); have hc3 := HCL.out w3 HB3.out; clear hA)
          | (go_at_call 15; (with_reducible refine (KP.out w3 HS3.out).mono ?_); rintro e w4 ⟨a4, c4, rfl, hs4, hb4, hf4⟩; have HB4 := Lib.hid (HB3.out.trans (hb4.mono HB3.out.size)); have HS4 := Lib.hid hs4; have HF4 := Lib.hid hf4; have HO4 := Lib.hid (ownsRow_below HA.out.own hb4); clear hb4 hs4 hf4))
        have HAS4 : Hid (Aside a4 (.slice sa2 (S + 1) sc2)) := Lib.hid fun ad he hk => by
          have h1 := HF4.out ad he
          have h2 := (HA.out.own.lt _ hk).2
          omega
        refine ⟨⟨i + 1, a4, c4, sa2, sc2, bs2, ss ++ [v], by omega, by rw [← HBl.out], by rw [List.length_append, ← HSl.out]; rfl, by go_num, HREL, HS4.out, by rw [List.length_append, ← HSl.out, HST.out, ← r64_app]; exact HO4.out, by rw [List.length_append, ← HSl.out]; exact HAS4.out, HB4.out⟩, ?_⟩
        simp [intOf]; omega
    · obtain rfl : i = n := by omega
      have hbss := hrel.out.1
      have hmem : ∀ v ∈ ss, isSign v ∧ charP v = true := by rw [hrel.out.2]; exact chs_mem _
      have hss : ss.length ≤ 200 := by rw [hrel.out.2]; have := chs_len (zs.take i); rw [List.length_take] at this; omega
      have hbs : bs.length ≤ 800 := by rw [hbss]; have := byt_len ss; omega
      obtain ⟨w5, hw5⟩ : ∃ w5 : World, w5 = wr := ⟨_, rfl⟩
      subst hw5
      by_cases k1 : cut < 0
      · clear hbss hmem hrel
        obtain ⟨B, hB⟩ : ∃ B, B = bs.length := ⟨_, rfl⟩
        obtain ⟨S, hS⟩ : ∃ S, S = ss.length := ⟨_, rfl⟩
        rw [← hB, ← hS]
        clear hB hS
        go_wp2
        go_ret
        exact ⟨rfl, HB.out⟩
      have k1' : ¬ cut < 0 := k1
      by_cases k2 : (bs.length : Int) < cut
      · obtain ⟨B, hB⟩ : ∃ B, B = bs.length := ⟨_, rfl⟩
        obtain ⟨S, hS⟩ : ∃ S, S = ss.length := ⟨_, rfl⟩
        rw [← hB] at k2 ⊢
        rw [← hS]
        clear hbss hmem hrel hB hS
        go_wp2
        go_ret
        exact ⟨rfl, HB.out⟩
      obtain ⟨ct, rfl⟩ : ∃ ct : Nat, cut = (ct : Int) := ⟨cut.toNat, by omega⟩
      have hct : ct ≤ bs.length := by omega
      have hyes := fun hb => cut_yes (cut := ct) hmem hb
      have hno := fun hb => cut_no (cut := ct) hmem (by rw [← hbss]; exact hct) hb
      have HB00 : Hid (btw ss ct 0 = decide (ct = bs.length)) := Lib.hid (by rw [hbss]; rfl)
      rw [← hbss] at hyes hno
      have hcut := (HSL.out.cut' 0 ct (by omega))
      rw [cutA_zero, Nat.sub_zero, List.drop_zero] at hcut
      have hsl := slice_h a bs.length c' ct (by have := HSL.out.le; omega)
      have KCk := Lib.hid fun (W : World) (hW : Below w5.heap.size w5 W) => Check_any a c' (bs.take ct) W (hcut.below hW) (by rw [List.length_take]; omega) (HT.out.grow (HB.out.trans (hW.mono HB.out.size)))
      rw [List.length_take, Nat.min_eq_left hct] at KCk
      obtain ⟨B, hB⟩ : ∃ B, B = bs.length := ⟨_, rfl⟩
      obtain ⟨S, hS⟩ : ∃ S, S = ss.length := ⟨_, rfl⟩
      rw [← hB] at k2 hct HB00 hsl ⊢
      rw [← hS] at hss HOW hyes hno ⊢
      obtain ⟨R, hR⟩ : ∃ R, R = alA charP (bs.take ct) := ⟨_, rfl⟩
      rw [← hR] at KCk hyes hno
      have HYES := Lib.hid hyes
      have HNO := Lib.hid hno
      have KCk := Lib.hid KCk
      have HSl := Lib.hid hS
      have HH : Hid (((ct : Int) == (B : Int)) = btw ss ct 0) := Lib.hid (by
        rw [HB00.out, Bool.eq_iff_iff]
        simp only [beq_iff_eq, decide_eq_true_eq]
        omega)
      have hb8 : B ≤ 800 := by rw [hB]; exact hbs
      clear hbss hmem hrel hB hS hR hyes hno hcut hbs
      go_wp2
      go_loop [8, 9, 10] (fun v8 v9 v10 => ∃ k : Nat, k ≤ S ∧ v10 = .int .i64 k ∧ v8 = .int .i64 (lst ss ct k : Nat) ∧ v9 = .bool (btw ss ct k)) (fun _ _ v10 => S - (intOf v10).toNat)
      case atStart => exact ⟨0, Nat.zero_le _, rfl, rfl, congrArg _ HH.out⟩
      case round =>
        obtain ⟨k, hk, rfl, rfl, rfl⟩ := hrel
        by_cases hlt : k < S
        · have hkk : (k : Int) < S := by omega
          have hks : k < ss.length := by rw [← HSl.out]; exact hlt
          obtain ⟨g, rfl, hcell⟩ := own64_cell HOW.out (by rw [sts_len]; exact hks)
          rw [sts_at hks] at hcell
          have hb1 : Hid (btw ss ct (k + 1) = (btw ss ct k || decide (st ss k = ct))) := Lib.hid rfl
          have hl1 : Hid (lst ss ct (k + 1) = if st ss k < ct then st ss k else lst ss ct k) := Lib.hid rfl
          obtain ⟨x, hx⟩ : ∃ x, x = st ss k := ⟨_, rfl⟩
          rw [← hx] at hcell hb1 hl1
          obtain ⟨l, hl⟩ : ∃ l, l = lst ss ct k := ⟨_, rfl⟩
          rw [← hl] at hl1 ⊢
          obtain ⟨q, hq⟩ : ∃ q, q = btw ss ct k := ⟨_, rfl⟩
          rw [← hq] at hb1 ⊢
          have hq2 : S - (k + 1) < S - k := by omega
          clear hx hl hq hks
          by_cases d1 : x = ct
          · subst d1
            have HB2 : Hid (btw ss x (k + 1) = true) := Lib.hid (by rw [hb1.out]; simp)
            have HL2 : Hid (lst ss x (k + 1) = l) := Lib.hid (by rw [hl1.out, if_neg (by omega)])
            cases q <;>
            · go_wp2
              go_round
              case rel => exact ⟨k + 1, by omega, by go_num, by rw [HL2.out], by rw [HB2.out]⟩
              case measure => simp [intOf]; omega
          · have d1' : ¬ (x : Int) = ct := by omega
            have HXC : Hid (((x : Int) == (ct : Int)) = false) := Lib.hid (beq_eq_false_iff_ne.2 d1')
            have HB2 : Hid (btw ss ct (k + 1) = q) := Lib.hid (by rw [hb1.out]; simp [d1])
            by_cases d2 : x < ct
            · have d2' : (x : Int) < ct := by omega
              have HL2 : Hid (lst ss ct (k + 1) = x) := Lib.hid (by rw [hl1.out, if_pos d2])
              cases q <;>
              · go_wp2
                go_round
                case rel => exact ⟨k + 1, by omega, by go_num, by rw [HL2.out], by first | (rw [HB2.out]; done) | rw [HB2.out, HXC.out]⟩
                case measure => simp [intOf]; omega
            · have d2' : ¬ (x : Int) < ct := by omega
              have HL2 : Hid (lst ss ct (k + 1) = l) := Lib.hid (by rw [hl1.out, if_neg d2])
              cases q <;>
              · go_wp2
                go_round
                case rel => exact ⟨k + 1, by omega, by go_num, by rw [HL2.out], by first | (rw [HB2.out]; done) | rw [HB2.out, HXC.out]⟩
                case measure => simp [intOf]; omega
        · obtain rfl : k = S := by omega
          obtain ⟨l, hl⟩ : ∃ l, l = lst ss ct k := ⟨_, rfl⟩
          rw [← hl] at HNO ⊢
          obtain ⟨q, hq⟩ : ∃ q, q = btw ss ct k := ⟨_, rfl⟩
          rw [← hq] at HYES HNO ⊢
          have KC1 := Lib.hid (KCk.out w5 (Below.refl _ _))
          clear hl hq KCk
          cases q with
          | true =>
            have hr := HYES.out rfl
            rw [hr] at KC1
            go_wp2_with (go_at_call 12; (with_reducible refine KC1.out.mono ?_); rintro e w6 ⟨rfl, hb6⟩; have HB6 := Lib.hid (HB.out.trans (hb6.mono HB.out.size)); clear hb6)
            go_ret
            exact ⟨rfl, HB6.out⟩
          | false =>
            have hr := HNO.out rfl
            rw [hr] at KC1
            go_wp2_with (go_at_call 12; (with_reducible refine KC1.out.mono ?_); rintro e w6 ⟨rfl, hb6⟩; have HB6 := Lib.hid (HB.out.trans (hb6.mono HB.out.size)); clear hb6)
            go_ret
            exact ⟨by simp, HB6.out⟩
theorem cuts_long (ao : Option Addr) (c n : Nat) (cut : Int) (w : World) (hT : TU w) (hn : 200 < n) (_hm : n ≤ maxLen) :
    Calls Tryd.prog 7 #[.slice ao n c, .int .i64 cut] w fun e w' => e = .returned (.bool true) ∧ Below w.heap.size w w' := by
  have KA := Lib.hid (alive_any w hT)
  have e1 : (200 : Int) < n := by omega
  clear hT hn
  go_enter Tryd.func7, Tryd.ntmps7
  go_wp2_with (go_at_call 8; (with_reducible refine KA.out.mono ?_); rintro e w1 ⟨rfl, hb⟩)
  go_ret
  exact ⟨rfl, hb⟩
theorem cuts_all (ao : Option Addr) (c : Nat) (zs : List Int) (cut : Int) (w : World) (hT : TU w) (h : RS w ao zs) (hm : zs.length ≤ maxLen) :
    Calls Tryd.prog 7 #[.slice ao zs.length c, .int .i64 cut] w fun e w' => e = .returned (.bool true) ∧ Below w.heap.size w w' := by
  by_cases h3 : zs.length ≤ 200
  · exact cuts_main ao c zs cut w hT h h3
  · exact cuts_long ao c zs.length cut w hT (by omega) hm
end Go.Proofs.YtmnkdnlmpgmdgaaDoor
