import Derived.Test.YtnnkegpnjedneaaDoorX7
import Derived.Test.YtnnkegpnjedneaaDoorX5
/-
  codeOf, isFull, fixedCodes of inflate.
-/
namespace Go.Proofs.YtnnkegpnjedneaaDoor
open Go.RowKit
set_option maxRecDepth 100000

def Coded (w : World) (ls : List Nat) (e : Ending) (w' : World) : Prop := ∃ pc, e = .returned (.pointer (some ⟨pc, 0, none⟩)) ∧ CodeAt w' pc ls ∧ Below w.heap.size w w'
theorem codeOf_yes (ao : Option Addr) (c n : Nat) (zs : List Int) (w : World) (h : IS w ao zs) (hl : zs.length = n) (hv : Vd zs) (hm : room (nat zs) ≤ 32768) : Calls Tryd.prog 80 #[.slice ao n c] w (Coded w (nat zs)) := by
  subst hl
  have HN := Lib.hid (New_ok ao c zs w h hv hm)
  clear h hv hm
  go_enter Tryd.func80, Tryd.ntmps80
  go_wp2_with (first
    | (go_at_call 22; (refine HN.out.mono ?_); rintro e w2 ⟨pc, rfl, hc, hb⟩; have HC := Lib.hid hc; have HB := Lib.hid hb; clear hc hb)
    | (go_at_call 66; (with_reducible refine (must_yes _ _).mono ?_); rintro e w4 ⟨rfl, rfl⟩))
  go_ret
  exact ⟨pc, rfl, HC.out, HB.out⟩
theorem codeOf_no (ao : Option Addr) (c n : Nat) (zs : List Int) (w : World) (h : IS w ao zs) (hl : zs.length = n) (hv : Vd zs) (hm : 32768 < room (nat zs)) : Calls Tryd.prog 80 #[.slice ao n c] w fun e w' => e = pan 10 ∧ Below w.heap.size w w' := by
  subst hl
  have HN := Lib.hid (New_form ao c zs w h hv hm)
  clear h hv hm
  go_enter Tryd.func80, Tryd.ntmps80
  go_wp2_with (first
    | (go_at_call 22; (refine HN.out.mono ?_); rintro e w2 ⟨rfl, hb⟩; have HB := Lib.hid hb; clear hb)
    | (go_at_call 66; (refine (must_no 10 _).mono ?_); rintro e w4 ⟨rfl, rfl⟩))
  exact ⟨rfl, rfl, HB.out⟩

/-- Is a number among these? -/
theorem index_any (ao : Option Addr) (c : Nat) (zs : List Int) (x : Int) (w : World) (h : IS w ao zs) (hl : zs.length ≤ 1000) :
    Calls Tryd.prog 96 #[.slice ao zs.length c, .int .i64 x] w fun e w' => (∃ j : Int, e = .returned (.int .i64 j) ∧ (0 ≤ j ↔ x ∈ zs)) ∧ w = w' := by
  have HI := Lib.hid h
  clear h
  go_enter Tryd.func96, Tryd.ntmps96
  go_wp2
  go_loop [8] (fun iv' => ∃ k : Nat, k ≤ zs.length ∧ iv' = .int .i64 k ∧ Hid (x ∉ zs.take k)) (fun iv' => zs.length - (intOf iv').toNat)
  case atStart => exact ⟨0, Nat.zero_le _, rfl, Lib.hid (by simp)⟩
  case round =>
    obtain ⟨k, hk, rfl, hn⟩ := hrel
    by_cases hlt : k < zs.length
    · obtain ⟨b, off, rfl, hc⟩ := HI.out.at hlt
      obtain ⟨y, hy⟩ : ∃ y, y = zs.getD k 0 := ⟨_, rfl⟩
      rw [← hy] at hc
      have HY : Hid (zs.take (k + 1) = zs.take k ++ [y]) := Lib.hid (by rw [List.take_succ_eq_append_getElem hlt, hy]; simp [List.getD, hlt])
      have HM : Hid (y ∈ zs) := Lib.hid (by rw [hy]; exact getD_mem hlt)
      clear hy
      have hlt' : (k : Int) < zs.length := by omega
      by_cases he : x = y
      · have d1 : (x == y) = true := by simpa using he
        have HE := Lib.hid he
        clear he
        go_wp2
        go_ret
        exact ⟨⟨k, rfl, ⟨fun _ => by rw [HE.out]; exact HM.out, fun _ => by omega⟩⟩, rfl⟩
      · have d1 : (x == y) = false := by simpa using he
        have HE := Lib.hid he
        clear he
        go_wp2
        go_round
        case rel => exact ⟨k + 1, by omega, by go_num, Lib.hid (by rw [HY.out]; intro hm; rcases List.mem_append.1 hm with hm | hm; exact hn.out hm; exact HE.out (List.mem_singleton.1 hm))⟩
        case measure => simp [intOf]; omega
    · have hge : (zs.length : Int) ≤ k := by omega
      have HN2 : Hid (x ∉ zs) := Lib.hid (by have := hn.out; rwa [List.take_of_length_le (by omega)] at this)
      go_wp2
      go_ret
      exact ⟨⟨-1, rfl, ⟨fun h => by omega, fun h => absurd h HN2.out⟩⟩, rfl⟩
theorem contains_any (ao : Option Addr) (c : Nat) (zs : List Int) (x : Int) (w : World) (h : IS w ao zs) (hl : zs.length ≤ 1000) :
    Calls Tryd.prog 92 #[.slice ao zs.length c, .int .i64 x] w fun e w' => e = .returned (.bool (decide (x ∈ zs))) ∧ w = w' := by
  have HI := Lib.hid (index_any ao c zs x w h hl)
  clear h
  go_enter Tryd.func92, Tryd.ntmps92
  go_wp2_with (go_at_call 96; (refine HI.out.mono ?_); rintro e w2 ⟨⟨j, rfl, hj⟩, rfl⟩; have HJ := Lib.hid hj; clear hj)
  go_ret
  exact ⟨ret_bool (by have := HJ.out; simp only [this]), rfl⟩

theorem mem_nat {zs : List Int} (hv : Vd zs) : (1 : Int) ∈ zs ↔ 1 ∈ nat zs := by
  unfold nat
  rw [List.mem_map]
  constructor
  · intro h; exact ⟨1, h, rfl⟩
  · rintro ⟨z, hz, he⟩
    have := hv.all z hz
    have : z = 1 := by omega
    rwa [this] at hz
theorem isFull_any (p : Nat) (ao : Option Addr) (c n : Nat) (zs : List Int) (w : World) (h : CodeAt w p (nat zs)) (hi : IS w ao zs) (hl : zs.length = n) (hv : Vd zs) :
    Calls Tryd.prog 83 #[.pointer (some ⟨p, 0, none⟩), .slice ao n c] w fun e w' => e = .returned (.bool (whole (nat zs))) ∧ Below w.heap.size w w' := by
  subst hl
  have hlen := hv.len
  have HC := Lib.hid (Complete_any p (nat zs) w h)
  by_cases h1 : room (nat zs) = 32768
  · have hw : whole (nat zs) = true := by unfold whole; simp [h1]
    rw [hw]
    simp only [h1, decide_true] at HC
    clear h hi hv h1 hw
    go_enter Tryd.func83, Tryd.ntmps83
    go_wp2_with (go_at_call 90; (refine HC.out.mono ?_); rintro e w2 ⟨rfl, hb⟩; have HB := Lib.hid hb; clear hb)
    go_ret
    exact ⟨rfl, HB.out⟩
  · simp only [h1, decide_false] at HC
    have HS := Lib.hid fun W (hb : Below w.heap.size w W) => Symbols_any p (nat zs) W (h.below hb)
    obtain ⟨m, hm⟩ : ∃ m, m = many (nat zs) := ⟨_, rfl⟩
    rw [← hm] at HS
    have hmb : m ≤ 10000 := by
      rw [hm]
      have := fp_le (nat zs) (by rw [nat_len]; exact hlen) 16
      unfold many
      omega
    by_cases h2 : m = 1
    · have hw : whole (nat zs) = decide ((1 : Int) ∈ zs) := by
        unfold whole
        rw [← hm]
        simp [h1, h2, mem_nat hv]
      rw [hw]
      have HK := Lib.hid fun W (hb : Below w.heap.size w W) => contains_any ao c zs 1 W (hi.below hb) (by omega)
      obtain ⟨b, hb0⟩ : ∃ b, b = decide ((1 : Int) ∈ zs) := ⟨_, rfl⟩
      rw [← hb0] at HK ⊢
      have d1 : ((m : Int) == 1) = true := by simp [h2]
      clear h hi hv h1 hw h2 hm hb0
      go_enter Tryd.func83, Tryd.ntmps83
      go_wp2_with (first
        | (go_at_call 90; (refine HC.out.mono ?_); rintro e w2 ⟨rfl, hb⟩; have HB := Lib.hid hb; clear hb)
        | (go_at_call 84; (refine (HS.out _ HB.out).mono ?_); rintro e w3 ⟨rfl, rfl⟩)
        | (go_at_call 92; (refine (HK.out _ HB.out).mono ?_); rintro e w3 ⟨rfl, rfl⟩))
      go_ret
      exact ⟨rfl, HB.out⟩
    · have hw : whole (nat zs) = false := by
        unfold whole
        rw [← hm]
        simp [h1, h2]
      rw [hw]
      have d1 : ((m : Int) == 1) = false := by simp; omega
      clear h hi hv h1 hw h2 hm
      go_enter Tryd.func83, Tryd.ntmps83
      go_wp2_with (first
        | (go_at_call 90; (refine HC.out.mono ?_); rintro e w2 ⟨rfl, hb⟩; have HB := Lib.hid hb; clear hb)
        | (go_at_call 84; (refine (HS.out _ HB.out).mono ?_); rintro e w3 ⟨rfl, rfl⟩))
      go_ret
      exact ⟨rfl, HB.out⟩

section
variable {B K p pb : Nat} {g : Option Nat} {bs : List Nat} {lim : Nat} {w : World} {ov : Value} {s : Sta}
theorem RS.setFix (h : RS B K p pb g bs lim w ov s) (K' : Nat) (v : Value) (hv : FixAt w K' v) :
    RS B K' p pb g bs lim (w.setCell ⟨p, 5, none⟩ v) ov s ∧ Mv p pb w ov (w.setCell ⟨p, 5, none⟩ v) ov := by
  obtain ⟨n1, n2, n3⟩ := h.ne
  have ht : Touch (fun k => k = p) w (w.setCell ⟨p, 5, none⟩ v) := (Touch.refl _ w).setCell _ _ (.inl rfl)
  have hT : Touch (FT p pb ov) w (w.setCell ⟨p, 5, none⟩ v) := ht.mono fun i hi => .inl hi
  obtain ⟨fx, hb, hf⟩ := h.blk
  exact ⟨⟨⟨v, hb.setCell 5 _, hv.safe hT h.safe⟩, h.ob.touch ht fun k hk e => by rcases hk with hk | hk; exact n1 (e.symm.trans hk); exact (n3 k hk).1 e, ownsRow_touch h.own ht fun i hi e => (n2 i hi).1 e, h.hp, h.row, h.len, h.lim_, h.in_, h.out, h.steps, h.blocks, h.bytes⟩, hT, fun _ x => .inl x⟩

/-- Two codes are answered. -/
def Two2 (B p pb : Nat) (g : Option Nat) (bs : List Nat) (lim : Nat) (w : World) (ov : Value) (s : Sta) (fl ol : List Nat) (e : Ending) (w' : World) : Prop :=
  ∃ p1 p2, e = .returned (.agg #[.pointer (some ⟨p1, 0, none⟩), .pointer (some ⟨p2, 0, none⟩)]) ∧ CodeAt w' p1 fl ∧ CodeAt w' p2 ol ∧ (∃ K', K' ≤ w'.heap.size ∧ RS B K' p pb g bs lim w' ov s) ∧ Mv p pb w ov w' ov
theorem fix_vd1 : Vd fixFZ := ⟨by decide +kernel, by decide +kernel⟩
theorem fix_vd2 : Vd fixOZ := ⟨by decide +kernel, by decide +kernel⟩
theorem fix_room1 : room (nat fixFZ) ≤ 32768 := by decide +kernel
theorem fix_room2 : room (nat fixOZ) ≤ 32768 := by decide +kernel
theorem agg2_i : (Tryd.prog.info? 124).map (·.size) = some 2 := by kernel_rfl

theorem fx_facts {w4 W : World} {p1 p2 r : Nat} (hrw : w.heap.size ≤ r) (h : RS B K p pb g bs lim w ov s) (hb : Below w.heap.size w w4) (hv : Blk w4 r 124 #[.pointer none, .pointer none]) (k1 : CodeAt w4 p1 fixF) (k2 : CodeAt w4 p2 fixO)
    (hq : Blk W w4.heap.size 124 #[.pointer (some ⟨p1, 0, none⟩), .pointer (some ⟨p2, 0, none⟩)]) (ht : Touch (fun _ => False) w4 W) :
    (∃ fx5, W.cell? ⟨p, 5, none⟩ = some fx5) ∧ W.frozen? ⟨p, 5, none⟩ = false ∧ p ≠ r ∧ p ≠ w4.heap.size ∧ r ≠ w4.heap.size ∧ W.cell? ⟨r, 0, none⟩ = some (.pointer none) ∧ W.cell? ⟨r, 1, none⟩ = some (.pointer none) ∧
    W.frozen? ⟨r, 0, none⟩ = false ∧ W.frozen? ⟨r, 1, none⟩ = false ∧ W.cell? ⟨w4.heap.size, 0, none⟩ = some (.pointer (some ⟨p1, 0, none⟩)) ∧ W.cell? ⟨w4.heap.size, 1, none⟩ = some (.pointer (some ⟨p2, 0, none⟩)) ∧
    ∀ W6, Touch (fun k => k = r) (W.setCell ⟨p, 5, none⟩ (.pointer (some ⟨w4.heap.size, 0, none⟩))) W6 → (∃ K', K' ≤ W6.heap.size ∧ RS B K' p pb g bs lim W6 ov s) ∧ Mv p pb w ov W6 ov ∧ CodeAt W6 p1 fixF ∧ CodeAt W6 p2 fixO := by
  have hbW : Below w4.heap.size w4 W := ht.below (Nat.le_refl _) fun _ h => h.elim
  obtain ⟨h5, m5⟩ := h.grow (hb.trans (hbW.mono hb.size))
  obtain ⟨fx5, hb5, _⟩ := h5.blk
  have v5 := hv.below hbW
  have c1 := k1.below hbW
  have c2 := k2.below hbW
  have hx : FixAt W W.heap.size (.pointer (some ⟨w4.heap.size, 0, none⟩)) := .inr ⟨_, p1, p2, rfl, hq, c1.in_, c2.in_, hq.lt⟩
  obtain ⟨h6, m6⟩ := h5.setFix _ _ hx
  have i1 := c1.in_
  have i2 := c2.in_
  have hpr : p ≠ r := by
    rintro rfl
    rw [Blk, hb5] at v5
    simp at v5
  obtain ⟨fx0, hb0, _⟩ := h.blk
  have hp0 := hb0.lt
  have hsz := hb.size
  have hr0 := hv.lt
  have hsf := h5.safe
  have d1 := i1.safe m6.touch hsf
  have d2 := i2.safe m6.touch hsf
  have hq6 := hq.safe m6.touch hsf (by decide)
  have hv6 := v5.safe m6.touch hsf (by decide)
  have hb6 := hb5.setCell 5 (.pointer (some ⟨w4.heap.size, 0, none⟩))
  refine ⟨⟨fx5, (hb5.cell 5).trans rfl⟩, hb5.free 5, hpr, by omega, by omega, (v5.cell 0).trans rfl, (v5.cell 1).trans rfl, v5.free 0, v5.free 1, (hq.cell 0).trans rfl, (hq.cell 1).trans rfl, ?_⟩
  intro W6 ht6
  have e1 := d1.aside hv6 ht6 ⟨by decide, by decide, fun h => absurd h (by decide)⟩
  have e2 := d2.aside hv6 ht6 ⟨by decide, by decide, fun h => absurd h (by decide)⟩
  obtain ⟨sv, o1, o2, o3⟩ := h6.ob.blk
  refine ⟨⟨W.heap.size, Nat.le_trans (by simp) ht6.size, ⟨_, hb6.touch ht6 hpr, .inr ⟨_, p1, p2, rfl, hq6.touch ht6 (by omega), e1, e2, hq.lt⟩⟩, h6.ob.touch ht6 ?_, ownsRow_touch h6.own ht6 ?_, h6.hp, h6.row, h6.len, h6.lim_, h6.in_, h6.out, h6.steps, h6.blocks, h6.bytes⟩, ?_, e1.at_, e2.at_⟩
  · rintro k (rfl | hk) e
    · subst e
      rw [Blk, o1] at hv6
      simp at hv6
    · subst e
      rw [← o2] at hk
      obtain ⟨cs, hc⟩ := own_ty o3 hk
      rw [Blk, hc] at hv6
      simp at hv6
  · intro k hk e
    subst e
    obtain ⟨cs, hc⟩ := own_ty h6.own hk
    rw [Blk, hc] at hv6
    simp at hv6
  · exact ⟨(m5.trans m6).touch.trans' ht6 (fun i hi hlt => by omega), fun k hk => .inl hk⟩

set_option maxHeartbeats 1600000 in
theorem fixedCodes_any (h : RS B K p pb g bs lim w ov s) (hK : K ≤ w.heap.size) : Calls Tryd.prog 69 #[.pointer (some ⟨p, 0, none⟩)] w (Two2 B p pb g bs lim w ov s fixF fixO) := by
  obtain ⟨fx, hb, hf⟩ := h.blk
  rcases hf with rfl | ⟨q, p1, p2, rfl, hq, hc1, hc2, _⟩
  · have c5 := (hb.cell 5).trans (show _ = some (.pointer none) from rfl)
    have hpl := hb.lt
    have H := Lib.hid h
    have e1 : ∀ W : World, (binOp BinOp.eql 65 (.pointer none) (.pointer none)).run Tryd.prog W = .ok (.bool true) W := fun _ => by kernel_rfl
    clear h hb
    go_enter Tryd.func69, Tryd.ntmps69
    go_wp2_with (go_at_call 18; (refine (Fixed_any _).mono ?_); rintro e w2 ⟨a1, c1, a2, c2, rfl, i1, i2, hb2⟩; have I1 := Lib.hid i1; have I2 := Lib.hid i2; have HB2 := Lib.hid hb2; clear i1 i2 hb2)
    obtain ⟨r, hr⟩ : ∃ r, r = w.heap.size := ⟨_, rfl⟩
    have HV : Hid (Blk w2 r 124 #[.pointer none, .pointer none]) := Lib.hid (by rw [hr]; exact (Blk.made w 124 _).below HB2.out)
    have HBw : Hid (Below r w w2) := Lib.hid (by rw [hr]; exact ((Below.refl _ w).alloc (Nat.le_refl _) _).trans (HB2.out.mono (by simp)))
    have HRr := Lib.hid hr
    rw [← hr]
    clear hr HB2
    refine (codeOf_yes a1 c1 288 fixFZ _ I1.out fixFZ_len fix_vd1 fix_room1).mono ?_
    rintro e w3 ⟨p1, rfl, k1, b3⟩
    have K1 := Lib.hid k1
    have B3 := Lib.hid b3
    have I3 := Lib.hid (I2.out.below b3)
    clear k1 b3 I1 I2
    go_wp2_with fail
    refine (codeOf_yes a2 c2 32 fixOZ _ I3.out fixOZ_len fix_vd2 fix_room2).mono ?_
    rintro e w4 ⟨p2, rfl, k2, b4⟩
    have hB4 : Below w.heap.size w w4 := by
      have s0 := HBw.out.size
      have s3 := B3.out.size
      have hr := HRr.out
      rw [hr] at HBw
      exact HBw.out.trans ((B3.out.mono (by omega)).trans (b4.mono (by omega)))
    have FF := Lib.hid fun W hq ht => fx_facts (W := W) (by rw [HRr.out]; exact Nat.le_refl _) H.out hB4 ((HV.out.below B3.out).below b4) (fixFZ_nat ▸ K1.out.below b4) (fixOZ_nat ▸ k2) hq ht
    clear hB4 b4 k2 K1 B3 I3 HBw HV H
    go_wp2_with (refine wpList_box_row rfl 124 (.tmp 19) rfl #[.pointer (some ⟨p1, 0, none⟩), .pointer (some ⟨p2, 0, none⟩)] rfl ?_; intro W hbq htq hsq; obtain ⟨⟨fx5, k5⟩, f5, n1, n2, n3, r0, r1, g0, g1, q0, q1, FIN⟩ := FF.out W hbq htq; have FI := Lib.hid FIN; clear hbq htq hsq FIN; obtain ⟨q, hq⟩ : ∃ q, q = w4.heap.size := ⟨_, rfl⟩; rw [← hq] at n2 n3 q0 q1 FI ⊢; clear hq)
    refine bodyPost_ret (v := .agg #[.pointer (some ⟨p1, 0, none⟩), .pointer (some ⟨p2, 0, none⟩)]) (by simp [results, Tryd.results69, go_sem, r0, r1]) rfl ?_
    obtain ⟨f1, f2, f3, f4⟩ := FI.out _ (((Touch.refl (fun k => k = r) (W.setCell ⟨p, 5, none⟩ (.pointer (some ⟨q, 0, none⟩)))).setCell ⟨r, 0, none⟩ (.pointer (some ⟨p1, 0, none⟩)) (.inl rfl)).setCell ⟨r, 1, none⟩ (.pointer (some ⟨p2, 0, none⟩)) (.inl rfl))
    exact ⟨p1, p2, rfl, f3, f4, f1, f2⟩
  · have c5 := (hb.cell 5).trans (show _ = some (.pointer (some ⟨q, 0, none⟩)) from rfl)
    have q0 := (hq.cell 0).trans (show _ = some (.pointer (some ⟨p1, 0, none⟩)) from rfl)
    have q1 := (hq.cell 1).trans (show _ = some (.pointer (some ⟨p2, 0, none⟩)) from rfl)
    have hpl := hb.lt
    have hql := hq.lt
    have H := Lib.hid h
    have C1 := Lib.hid hc1.at_
    have C2 := Lib.hid hc2.at_
    clear h hb hq hc1 hc2
    go_enter Tryd.func69, Tryd.ntmps69
    go_wp2
    refine bodyPost_ret (v := .agg #[.pointer (some ⟨p1, 0, none⟩), .pointer (some ⟨p2, 0, none⟩)]) (by simp [results, Tryd.results69, go_sem]) rfl ?_
    have hA : Below w.heap.size w (w.alloc (.cells #[.pointer (some ⟨p1, 0, none⟩), .pointer (some ⟨p2, 0, none⟩)] 124)) := (Below.refl _ w).alloc (Nat.le_refl _) _
    obtain ⟨h2, m2⟩ := H.out.grow hA
    exact ⟨p1, p2, rfl, C1.out.below hA, C2.out.below hA, ⟨K, Nat.le_trans hK hA.size, h2⟩, m2⟩
end
end Go.Proofs.YtnnkegpnjedneaaDoor

/-
  item and lengthsBehind of inflate's reader.
-/
namespace Go.Proofs.YtnnkegpnjedneaaDoor
open Go.RowKit
set_option maxRecDepth 100000

section
variable {B K p pb : Nat} {g : Option Nat} {bs : List Nat} {lim : Nat} {w : World} {ov : Value} {s : Sta}
/-- An item, by value. -/
abbrev iv2 (x : Nat × Nat) : Value := .agg #[.int .i64 (x.1 : Nat), .int .i64 (x.2 : Nat)]

theorem item_end {w1 W : World} {ov1 : Value} {s1 : Sta} {r : Nat} {cs : Array Value} (h : RS B K p pb g bs lim W ov1 s1) (m : Mv p pb w ov W ov1) {t : TypeId} (hr : Blk W r t cs) (ht3 : t = 147 ∨ ((t = 3 ∨ t = 124) ∧ K ≤ r)) (hrw : w.heap.size ≤ r) (ht : Touch (fun k => k = r) W w1) :
    RS B K p pb g bs lim w1 ov1 s1 ∧ Mv p pb w ov w1 ov1 := by
  have tne : t ≠ 67 ∧ t ≠ 96 ∧ t ≠ 5 ∧ (t = 124 → K ≤ r) ∧ t ≠ 79 ∧ t ≠ 101 ∧ (t = 3 → K ≤ r) := by
    rcases ht3 with rfl | ⟨rfl | rfl, hk⟩
    · exact ⟨by decide, by decide, by decide, fun h => absurd h (by decide), by decide, by decide, fun h => absurd h (by decide)⟩
    · exact ⟨by decide, by decide, by decide, fun _ => hk, by decide, by decide, fun _ => hk⟩
    · exact ⟨by decide, by decide, by decide, fun _ => hk, by decide, by decide, fun _ => hk⟩
  obtain ⟨t1, t2, t3, t4, t5, t6, t7⟩ := tne
  have ne : ∀ {k : Nat} {t' : TypeId} {c : Array Value}, W.heap[k]? = some (.cells c t' (0, 0)) → t ≠ t' → k ≠ r := by
    rintro k t' c hk hne rfl
    rw [Blk, hk] at hr
    simp at hr
    exact hne hr.2.symm
  have bl : ∀ {k : Nat} {t' : TypeId} {c : Array Value}, Blk W k t' c → t ≠ t' → Blk w1 k t' c := fun hk hne => hk.touch ht (ne hk hne)
  obtain ⟨fx, hb, hf⟩ := h.blk
  obtain ⟨sv, o1, o2, o3⟩ := h.ob.blk
  refine ⟨⟨⟨fx, bl hb t1, ?_⟩, h.ob.touch ht ?_, ownsRow_touch h.own ht ?_, h.hp, h.row, h.len, h.lim_, h.in_, h.out, h.steps, h.blocks, h.bytes⟩, m.touch.trans' ht (fun i hi hlt => by omega), m.row⟩
  · rcases hf with hf | ⟨q, p1, p2, hv, a1, a2, a3, a4⟩
    · exact .inl hf
    · refine .inr ⟨q, p1, p2, hv, a1.touch ht ?_, a2.aside hr ht ⟨t5, t6, t7⟩, a3.aside hr ht ⟨t5, t6, t7⟩, a4⟩
      rintro rfl
      rw [Blk, a1] at hr
      simp at hr
      have := t4 hr.2.symm
      omega
  · rintro k (rfl | hk) e
    · exact ne o1 t2 e
    · rw [← o2] at hk
      obtain ⟨c, hc⟩ := own_ty o3 hk
      exact ne hc t3 e
  · intro k hk e
    obtain ⟨c, hc⟩ := own_ty h.own hk
    exact ne hc t3 e

set_option maxHeartbeats 1600000 in
theorem item_any {pc : Nat} {own : List Nat} (h : RS B K p pb g bs lim w ov s) (hc : CodeAt w pc own) :
    Calls Tryd.prog 95 #[.pointer (some ⟨p, 0, none⟩), .pointer (some ⟨pc, 0, none⟩)] w (RTo B K p pb g bs lim w ov iv2 (itm bs own s)) := by
  obtain ⟨R, hR⟩ : ∃ R, R = itm bs own s := ⟨_, rfl⟩
  rw [← hR]
  unfold itm at hR
  have HR := Lib.hid hR
  clear hR
  have hA : Below w.heap.size w (w.alloc (.cells #[.int .i64 0, .int .i64 0] 147)) := (Below.refl _ w).alloc (Nat.le_refl _) _
  obtain ⟨h1, m1⟩ := h.grow hA
  have hc1 := hc.below hA
  have HV : Hid (Blk (w.alloc (.cells #[.int .i64 0, .int .i64 0] 147)) w.heap.size 147 #[.int .i64 0, .int .i64 0]) := Lib.hid (Blk.made _ _ _)
  obtain ⟨r, hr⟩ : ∃ r, r = w.heap.size := ⟨_, rfl⟩
  have HRW : Hid (w.heap.size ≤ r) := Lib.hid (by omega)
  obtain ⟨W, hW⟩ : ∃ W, W = w.alloc (.cells #[.int .i64 0, .int .i64 0] 147) := ⟨_, rfl⟩
  go_enter Tryd.func95, Tryd.ntmps95
  go_wp2_with fail
  rw [← hr, ← hW] at HV
  rw [← hW] at h1 m1 hc1 ⊢
  rw [← hr]
  clear hr hW hA h hc
  refine (symbol_any h1 hc1).mono ?_
  rintro e w2 h2
  cases hr1 : rdS bs own s with
  | bad er =>
    rw [hr1] at h2
    obtain ⟨rfl, ht⟩ := h2
    have hR := HR.out
    rw [hr1] at hR
    have HR1 := Lib.hid hR
    clear hr1 hR h1 hc1
    go_wp2
    exact ⟨rfl, RTo.bad HR1.out (m1.bad ht)⟩
  | ok y s2 =>
    rw [hr1] at h2
    obtain ⟨rfl, ov2, h2, m2⟩ := h2
    have hR := HR.out
    rw [hr1, Res.bind_ok] at hR
    have HR1 := Lib.hid hR
    have hv2 := HV.out.safe m2.touch h1.safe (by decide)
    have M2 := Lib.hid (m1.trans m2)
    have hy : y < 320 := by
      have hb := rdS_is hr1
      have h1 := ln_lt (ls := own) (s := y) (by omega)
      have := hc1.ok.len
      omega
    clear hr1 hR h1 hc1 HR HV m1 m2
    by_cases hy1 : 16 ≤ y ∧ y ≤ 18
    · have hR := HR1.out
      rw [if_pos hy1] at hR
      have HR2 := Lib.hid hR
      have hN := fun n (hn : n ≤ 16) => number_any h2 n hn
      have hv0 := hv2.cell 0
      obtain ⟨k, hk⟩ : ∃ k, k = xb y := ⟨_, rfl⟩
      have hk16 : k ≤ 16 := by rw [hk]; unfold xb; split <;> (try split) <;> (try split) <;> omega
      have hNk := Lib.hid (hN k hk16)
      rw [← hk] at HR2
      have HV2 := Lib.hid hv2
      have fin : Hid (∀ e w3, RTo B K p pb g bs lim w2 ov2 nv (rdN bs k s2) e w3 → (∃ er, e = pan er ∧ R = .bad er ∧ Touch (FT p pb ov) w w3) ∨ (∃ v s3, e = .returned (.int .i64 (v : Nat)) ∧ R = .ok (y, v) s3 ∧ ∃ ov3, RS B K p pb g bs lim w3 ov3 s3 ∧ Mv p pb w ov w3 ov3 ∧ Blk w3 r 147 #[.int .i64 0, .int .i64 0])) := Lib.hid fun e w3 h3 => by
        cases hr3 : rdN bs k s2 with
        | bad er =>
          rw [hr3] at h3
          obtain ⟨rfl, ht⟩ := h3
          exact .inl ⟨er, rfl, by have := HR2.out; rw [hr3] at this; exact this, M2.out.bad ht⟩
        | ok v s3 =>
          rw [hr3] at h3
          obtain ⟨rfl, ov3, h3, m3⟩ := h3
          exact .inr ⟨v, s3, rfl, by have := HR2.out; rw [hr3] at this; exact this, ov3, h3, M2.out.trans m3, HV2.out.safe m3.touch h2.safe (by decide)⟩
      have hb : y = 16 ∨ y = 17 ∨ y = 18 := by omega
      clear hR hN hy1 h2 hv2 hv0
      rcases hb with rfl | rfl | rfl
      · have hk2 : k = 2 := hk
        subst hk2
        clear hk
        go_wp2_with fail
        refine hNk.out.mono ?_
        rintro e w3 h3
        rcases fin.out e w3 h3 with ⟨er, rfl, hRe, ht⟩ | ⟨v, s3, rfl, hRe, ov3, h4, m3, hv3⟩
        · have HRE := Lib.hid hRe
          clear hRe h3
          go_wp2
          exact ⟨rfl, RTo.bad HRE.out ht⟩
        · have HRE := Lib.hid hRe
          have H4 := Lib.hid h4
          have HV3 := Lib.hid hv3
          have v0 := hv3.cell 0
          have v1 := hv3.cell 1
          have f0 := hv3.free 0
          have f1 := hv3.free 1
          clear hRe h3 h4 hv3
          go_wp2
          refine bodyPost_ret (v := .agg #[.int .i64 16, .int .i64 (v : Nat)]) (by simp [results, Tryd.results95, go_sem, v0, v1]) rfl ?_
          obtain ⟨f1, f2⟩ := item_end H4.out m3 HV3.out (.inl rfl) HRW.out (((Touch.refl (fun k => k = r) w3).setCell ⟨r, 0, none⟩ (.int .i64 16) (.inl rfl)).setCell ⟨r, 1, none⟩ (.int .i64 (v : Nat)) (.inl rfl))
          exact RTo.ok HRE.out f1 f2
      · have hk2 : k = 3 := hk
        subst hk2
        clear hk
        go_wp2_with fail
        refine hNk.out.mono ?_
        rintro e w3 h3
        rcases fin.out e w3 h3 with ⟨er, rfl, hRe, ht⟩ | ⟨v, s3, rfl, hRe, ov3, h4, m3, hv3⟩
        · have HRE := Lib.hid hRe
          clear hRe h3
          go_wp2
          exact ⟨rfl, RTo.bad HRE.out ht⟩
        · have HRE := Lib.hid hRe
          have H4 := Lib.hid h4
          have HV3 := Lib.hid hv3
          have v0 := hv3.cell 0
          have v1 := hv3.cell 1
          have f0 := hv3.free 0
          have f1 := hv3.free 1
          clear hRe h3 h4 hv3
          go_wp2
          refine bodyPost_ret (v := .agg #[.int .i64 17, .int .i64 (v : Nat)]) (by simp [results, Tryd.results95, go_sem, v0, v1]) rfl ?_
          obtain ⟨f1, f2⟩ := item_end H4.out m3 HV3.out (.inl rfl) HRW.out (((Touch.refl (fun k => k = r) w3).setCell ⟨r, 0, none⟩ (.int .i64 17) (.inl rfl)).setCell ⟨r, 1, none⟩ (.int .i64 (v : Nat)) (.inl rfl))
          exact RTo.ok HRE.out f1 f2
      · have hk2 : k = 7 := hk
        subst hk2
        clear hk
        go_wp2_with fail
        refine hNk.out.mono ?_
        rintro e w3 h3
        rcases fin.out e w3 h3 with ⟨er, rfl, hRe, ht⟩ | ⟨v, s3, rfl, hRe, ov3, h4, m3, hv3⟩
        · have HRE := Lib.hid hRe
          clear hRe h3
          go_wp2
          exact ⟨rfl, RTo.bad HRE.out ht⟩
        · have HRE := Lib.hid hRe
          have H4 := Lib.hid h4
          have HV3 := Lib.hid hv3
          have v0 := hv3.cell 0
          have v1 := hv3.cell 1
          have f0 := hv3.free 0
          have f1 := hv3.free 1
          clear hRe h3 h4 hv3
          go_wp2
          refine bodyPost_ret (v := .agg #[.int .i64 18, .int .i64 (v : Nat)]) (by simp [results, Tryd.results95, go_sem, v0, v1]) rfl ?_
          obtain ⟨f1, f2⟩ := item_end H4.out m3 HV3.out (.inl rfl) HRW.out (((Touch.refl (fun k => k = r) w3).setCell ⟨r, 0, none⟩ (.int .i64 18) (.inl rfl)).setCell ⟨r, 1, none⟩ (.int .i64 (v : Nat)) (.inl rfl))
          exact RTo.ok HRE.out f1 f2
    · have hR := HR1.out
      rw [if_neg hy1] at hR
      have HR2 := Lib.hid hR
      have d1 : ((y : Int) == 16) = false := by simp; omega
      have d2 : ((y : Int) == 17) = false := by simp; omega
      have d3 : ((y : Int) == 18) = false := by simp; omega
      have H2 := Lib.hid h2
      have HV2 := Lib.hid hv2
      have v0 := hv2.cell 0
      have v1 := hv2.cell 1
      have f0 := hv2.free 0
      have f1 := hv2.free 1
      clear hR hy1 h2 hv2
      go_wp2
      refine bodyPost_ret (v := .agg #[.int .i64 (y : Nat), .int .i64 0]) (by simp [results, Tryd.results95, go_sem, v0, v1]) rfl ?_
      obtain ⟨f1, f2⟩ := item_end H2.out M2.out HV2.out (.inl rfl) HRW.out (((Touch.refl (fun k => k = r) w2).setCell ⟨r, 0, none⟩ (.int .i64 (y : Nat)) (.inl rfl)).setCell ⟨r, 1, none⟩ (.int .i64 0) (.inl rfl))
      exact RTo.ok HR2.out f1 f2

/-- Numbers as integers. -/
def zn (l : List Nat) : List Int := l.map fun x : Nat => (x : Int)
theorem zn_len (l : List Nat) : (zn l).length = l.length := by simp [zn]
theorem zn_nat (l : List Nat) : nat (zn l) = l := by simp [nat, zn, Function.comp_def]
theorem zn_app (a b : List Nat) : zn (a ++ b) = zn a ++ zn b := by simp [zn]
theorem zn_at (l : List Nat) (k : Nat) : (zn l).getD k 0 = (l.getD k 0 : Nat) := by
  unfold zn
  rcases Nat.lt_or_ge k l.length with h | h <;> simp [List.getD, h]
/-- What an item tells, as the reading of items says it. -/
def told1 (y v : Nat) (row : List Nat) : List Nat := List.replicate ((if y = 16 then 3 else if y = 17 then 3 else if y = 18 then 11 else 1) + v) (if y = 16 then row.getLastD 0 else if y = 17 then 0 else if y = 18 then 0 else y)
theorem told_eq {y v : Nat} {row : List Nat} (hy : y ≤ 18) (hv : y < 16 → v = 0) : told y v row = if y = 16 ∧ row = [] then none else some (told1 y v row) := by
  unfold told told1
  by_cases h1 : y < 16
  · rw [if_pos h1, if_neg (by omega), hv h1, if_neg (by omega), if_neg (by omega), if_neg (by omega), if_neg (by omega), if_neg (by omega), if_neg (by omega)]
    rfl
  · rw [if_neg h1]
    by_cases h2 : y = 16
    · by_cases h3 : row = []
      · simp [h2, h3]
      · simp [h2, h3]
    · by_cases h4 : y = 17
      · simp [h4]
      · have : y = 18 := by omega
        simp [this]
theorem itm_is {own : List Nat} {x : Nat × Nat} {t : Sta} (h : itm bs own s = .ok x t) (hl : own.length = 19) : x.1 ≤ 18 ∧ (x.1 < 16 → x.2 = 0) ∧ x.2 < 2 ^ xb x.1 := by
  obtain ⟨y, s1, h1, h⟩ := Res.bind_is h
  have hb := rdS_is h1
  have hy := ln_lt (ls := own) (s := y) (by omega)
  split at h
  · obtain ⟨v, s2, h2, h⟩ := Res.bind_is h
    cases h
    exact ⟨by show y ≤ 18; omega, fun h => by have : y < 16 := h; omega, rdN_lt h2⟩
  · cases h
    exact ⟨by show y ≤ 18; omega, fun _ => rfl, Nat.two_pow_pos _⟩

theorem un_one {y v : Nat} {ts : List Int} {row : List Nat} (hy : y ≤ 18) (h0 : y < 16 → v = 0) (hv : v < 2 ^ xb y) (ht : ts.length ≤ 1) (hr : y = 16 → ts ≠ [] ∧ ts.getD (ts.length - 1) 0 = (row.getLastD 0 : Nat)) :
    Z.un [((y : Int), (v : Int))] ts = some (ts ++ zn (told1 y v row)) := by
  have hW : ¬ Z.Wi y v ts.length ∧ ((Z.spl y : Int) + v).toNat = (if y = 16 then 3 else if y = 17 then 3 else if y = 18 then 11 else 1) + v ∧ Z.tv y ts = ((if y = 16 then row.getLastD 0 else if y = 17 then 0 else if y = 18 then 0 else y : Nat) : Int) := by
    by_cases h1 : y < 16
    · have e16 : ¬ (y : Int) = 16 := by omega
      have e17 : ¬ (y : Int) = 17 := by omega
      have e18 : ¬ (y : Int) = 18 := by omega
      have f16 : ¬ y = 16 := by omega
      have f17 : ¬ y = 17 := by omega
      have f18 : ¬ y = 18 := by omega
      have hv0 := h0 h1
      unfold Z.Wi Z.Bad Z.spl Z.spm Z.tv
      refine ⟨by simp [e16, e17, e18]; omega, by simp [e16, e17, e18, f16, f17, f18]; omega, by simp [e16, e17, e18, f16, f17, f18]⟩
    · have hb : y = 16 ∨ y = 17 ∨ y = 18 := by omega
      rcases hb with rfl | rfl | rfl
      · obtain ⟨hne, hl⟩ := hr rfl
        have hp : ts.length ≠ 0 := by simpa using hne
        have hv4 : v < 4 := hv
        unfold Z.Wi Z.Bad Z.spl Z.spm Z.tv
        refine ⟨by simp [hne]; omega, by simp; omega, by rw [if_pos rfl, if_pos (show ((16 : Nat) : Int) = 16 from rfl)]; exact hl⟩
      · have hv4 : v < 8 := hv
        unfold Z.Wi Z.Bad Z.spl Z.spm Z.tv
        refine ⟨by simp; omega, by simp; omega, by simp⟩
      · have hv4 : v < 128 := hv
        unfold Z.Wi Z.Bad Z.spl Z.spm Z.tv
        refine ⟨by simp; omega, by simp; omega, by simp⟩
  unfold Z.un
  rw [if_neg hW.1, hW.2.1, hW.2.2]
  unfold Z.un
  unfold told1 zn
  rw [List.map_replicate]
theorem un_none (v : Nat) : Z.un [((16 : Int), (v : Int))] [] = none := by
  unfold Z.un
  rw [if_pos (.inr (.inr (.inl ⟨rfl, rfl⟩)))]
theorem un_two {y v L : Nat} {row : List Nat} (hy : y ≤ 18) (h0 : y < 16 → v = 0) (hv : v < 2 ^ xb y) (hL : row.getLastD 0 = L) (hL15 : L ≤ 15) : Z.un [((L : Int), 0), ((y : Int), (v : Int))] [] = some ((L : Int) :: zn (told1 y v row)) := by
  have h1 : Z.un [((L : Int), 0), ((y : Int), (v : Int))] [] = Z.un [((y : Int), (v : Int))] [(L : Int)] := by
    have hW : ¬ Z.Wi L 0 0 ∧ ((Z.spl L : Int) + 0).toNat = 1 ∧ Z.tv L [] = (L : Int) := by
      have e16 : ¬ (L : Int) = 16 := by omega
      have e17 : ¬ (L : Int) = 17 := by omega
      have e18 : ¬ (L : Int) = 18 := by omega
      unfold Z.Wi Z.Bad Z.spl Z.spm Z.tv
      refine ⟨by simp [e16, e17, e18]; omega, by simp [e16, e17, e18], by simp [e16, e17, e18]⟩
    rw [Z.un, List.length_nil, if_neg hW.1, hW.2.1, hW.2.2]
    rfl
  rw [h1, un_one (row := row) hy h0 hv (by simp) fun _ => ⟨by simp, by rw [hL]; rfl⟩]
  rfl
end
end Go.Proofs.YtnnkegpnjedneaaDoor

/-
  lengthsBehind of inflate's reader.
-/
namespace Go.Proofs.YtnnkegpnjedneaaDoor
open Go.RowKit
set_option maxRecDepth 100000

theorem at146 : AT 146 147 (.agg #[.int .i64 0, .int .i64 0]) 2 16 := ⟨by kernel_rfl, by kernel_rfl, rfl, by omega⟩
theorem own_ts {w : World} {base n c : Nat} {ao : Option Addr} {r : List (Int × Int)} (h : w.ownsRow base 147 2 (.slice ao n c) n (Z.icl r)) (hn : r.length = n) : Z.TS w ao r := by
  rcases h.2 with ⟨_, h0⟩ | ⟨g, cap, cur, e, _, hh, _, _, _, ht⟩
  · exact .inl (List.eq_nil_of_length_eq_zero (by omega))
  · simp only [Value.slice.injEq] at e
    obtain ⟨rfl, _, rfl⟩ := e
    refine .inr ⟨g, 0, rfl, fun j v hv => ?_⟩
    rw [Nat.zero_add, cell_of_row w g j cur 147 (0, 0) hh, ← Array.getElem?_toList]
    rw [← ht, List.getElem?_take] at hv
    split at hv
    · exact hv
    · cases hv
theorem is_tail {w : World} {ao : Option Addr} {x : Int} {zs : List Int} (h : IS w ao (x :: zs)) : ∃ b off, ao = some ⟨b, off, none⟩ ∧ IS w (some ⟨b, off + 1, none⟩) zs := by
  rcases h with h | ⟨b, off, rfl, hc⟩
  · cases h
  · refine ⟨b, off, rfl, .inr ⟨b, off + 1, rfl, fun j hj => ?_⟩⟩
    have := hc (j + 1) (by simp; omega)
    rw [show off + 1 + j = off + (j + 1) by omega, this]
    rfl
theorem cells_two (w : World) (e : TypeId) (x y : Value) : CellsAt (w.alloc (.cells #[x, y] e)) (.slice (some ⟨w.heap.size, 0, none⟩) 1 1) 1 [x, y] := by
  refine .inr ⟨_, 1, rfl, fun j u hu => ?_⟩
  rw [Addr.add_lit, Nat.zero_add, (Blk.made w e _).cell]
  simpa using hu
theorem icl_two (x : Int × Int) (u : Value) (h : u ∈ [Value.int .i64 x.1, Value.int .i64 x.2]) : u.oneCell' = true := by
  simp at h
  rcases h with rfl | rfl <;> rfl
theorem told1_pos (y v : Nat) (row : List Nat) : 1 ≤ (told1 y v row).length := by
  unfold told1
  rw [List.length_replicate]
  split
  · omega
  · split
    · omega
    · split <;> omega
theorem told1_le {y v : Nat} (row : List Nat) (hv : v < 2 ^ xb y) : (told1 y v row).length ≤ 138 := by
  unfold told1
  rw [List.length_replicate]
  unfold xb at hv
  split
  · rename_i h; subst h; simp at hv; omega
  · split
    · rename_i h; subst h; simp at hv; omega
    · split
      · rename_i h; subst h; simp at hv; omega
      · rename_i h1 h2 h3
        rw [if_neg h1, if_neg h2, if_neg h3] at hv
        omega

section
variable {B K p pb : Nat} {g : Option Nat} {bs : List Nat} {lim : Nat} {w : World} {ov : Value} {s : Sta}
/-- The next lengths. -/
def nxt (bs own : List Nat) (row : List Nat) (s : Sta) : Res (List Nat) :=
  (itm bs own s).bind fun x s1 => match told x.1 x.2 row with | none => .bad 10 | some t => .ok t s1
/-- What the reading of an item leaves. -/
def LB (B K p pb : Nat) (g : Option Nat) (bs : List Nat) (lim : Nat) (w : World) (ov : Value) (r : Res (List Nat)) (e : Ending) (w' : World) : Prop :=
  match r with
  | .bad er => RBad p pb w ov er e w'
  | .ok t s => ∃ a c, e = .returned (.slice a t.length c) ∧ (IS w' a (zn t) ∧ t.length ≤ c) ∧ ∃ ov', RS B K p pb g bs lim w' ov' s ∧ Mv p pb w ov w' ov'
theorem LB.bad {R : Res (List Nat)} {er : Nat} {w' : World} (e : R = .bad er) (ht : Touch (FT p pb ov) w w') : LB B K p pb g bs lim w ov R (pan er) w' := by
  subst e; exact ⟨rfl, ht⟩
theorem LB.ok {R : Res (List Nat)} {t : List Nat} {s1 : Sta} {w' : World} {ov' : Value} {a : Option Addr} {c n : Nat} (e : R = .ok t s1) (hn : t.length = n) (hcap : n ≤ c) (hi : IS w' a (zn t)) (h : RS B K p pb g bs lim w' ov' s1) (m : Mv p pb w ov w' ov') :
    LB B K p pb g bs lim w ov R (.returned (.slice a n c)) w' := by
  subst e; subst hn; exact ⟨a, c, rfl, ⟨hi, hcap⟩, ov', h, m⟩
theorem row_safe {S : Nat → Prop} {w w' : World} {base n : Nat} {v : Value} {xs : List Value} (h : w.ownsRow base 147 2 v n xs) (ht : Touch S w w') (hs : Safe w S) : w'.ownsRow base 147 2 v n xs :=
  ownsRow_touch h ht fun k hk e => by
    obtain ⟨cs, hc⟩ := own_ty h hk
    rcases hs k 147 cs hc e with x | x | x <;> simp at x

theorem RS.list {w1 W : World} {ov1 : Value} {s1 : Sta} {n : Nat} {v : Value} {xs : List Value} (h : RS B K p pb g bs lim W ov1 s1) (m : Mv p pb w ov W ov1) (hrow : W.ownsRow w.heap.size 147 2 v n xs) (ht : Touch (fun k => v.ownBlock = some k) W w1) :
    RS B K p pb g bs lim w1 ov1 s1 ∧ Mv p pb w ov w1 ov1 := by
  cases hv : v.ownBlock with
  | none =>
    obtain ⟨h2, m2⟩ := h.grow (ht.below (Nat.le_refl _) fun k hk => by rw [hv] at hk; cases hk)
    exact ⟨h2, m.trans m2⟩
  | some k =>
    obtain ⟨cs, hc⟩ := own_ty hrow hv
    exact item_end h m (show Blk W k 147 cs from hc) (.inl rfl) (hrow.lt k hv).1 (ht.mono fun i hi => by rw [hv] at hi; cases hi; rfl)
theorem RS.built {w1 W : World} {ov1 : Value} {s1 : Sta} {n n' : Nat} {v v' : Value} {xs ys : List Value} {o : Obj} (h : RS B K p pb g bs lim W ov1 s1) (m : Mv p pb w ov W ov1) (hrow : W.ownsRow w.heap.size 147 2 v n xs) (hA : Apg (W.alloc o) w.heap.size 147 2 v n' ys v' w1) :
    RS B K p pb g bs lim w1 ov1 s1 ∧ Mv p pb w ov w1 ov1 := by
  obtain ⟨h2, m2⟩ := h.grow ((Below.refl _ W).alloc (Nat.le_refl _) o)
  exact h2.list (m.trans m2) (World.ownsRow.alloc (w := W) hrow _) hA.touch

set_option maxHeartbeats 3200000 in
theorem behind_some {pc c : Nat} {ao : Option Addr} {own row : List Nat} (h : RS B K p pb g bs lim w ov s) (hc : CodeAt w pc own) (hl : own.length = 19) (hr : IS w ao (zn row)) (hrl : row.length ≤ 320) (hr15 : ∀ x ∈ row, x ≤ 15) (hne : row ≠ []) :
    Calls Tryd.prog 91 #[.pointer (some ⟨p, 0, none⟩), .slice ao row.length c, .pointer (some ⟨pc, 0, none⟩)] w (LB B K p pb g bs lim w ov (nxt bs own row s)) := by
  obtain ⟨R, hR⟩ : ∃ R, R = nxt bs own row s := ⟨_, rfl⟩
  rw [← hR]
  unfold nxt at hR
  have HR := Lib.hid hR
  obtain ⟨n, hn⟩ : ∃ n, row.length = n + 1 := ⟨row.length - 1, by have := List.length_pos_iff.2 hne; omega⟩
  obtain ⟨b, off, rfl, q0⟩ := hr.at (k := n) (by rw [zn_len]; omega)
  obtain ⟨L, hL⟩ : ∃ L, L = row.getD n 0 := ⟨_, rfl⟩
  rw [zn_at, ← hL] at q0
  have hLL : row.getLastD 0 = L := by
    rw [hL, List.getLastD_eq_getLast?, List.getLast?_eq_getElem?, hn, Nat.add_sub_cancel, List.getD_eq_getElem?_getD]
  have hL15 : L ≤ 15 := by
    rw [hL, List.getD_eq_getElem?_getD, List.getElem?_eq_getElem (by omega)]
    exact hr15 _ (List.getElem_mem _)
  have HL := Lib.hid hLL
  have HNE := Lib.hid hne
  have H := Lib.hid h
  have HC := Lib.hid hc
  have HQ := Lib.hid q0
  have hbl := World.block_lt_of_cell? w _ q0
  have hn' : n ≤ 319 := by omega
  obtain ⟨m, hm⟩ : ∃ m, m = row.length := ⟨_, rfl⟩
  rw [← hm]
  have hm1 : m = n + 1 := by omega
  have e1 : (m : Int) - 1 = n := by omega
  have e2 : (0 : Int) < m := by omega
  have e3 : (n : Int) < m := by omega
  have e4 : (m : Int) ≤ 320 := by omega
  have e5 : (0 : Int) ≤ (n : Int) := by omega
  clear hm hm1 hR hr hr15 hne hn hL hLL h hc q0 hrl
  obtain ⟨i, hi1, hi2, hi3, hi4⟩ := info_parts at146.info
  have HI := Lib.hid (And.intro hi1 (And.intro hi2 (And.intro hi3 hi4)))
  clear hi1 hi2 hi3 hi4
  go_enter Tryd.func91, Tryd.ntmps91
  go_wp2_with (first
    | (refine wpList_make_own _ rfl _ _ 146 rfl w.heap.size 147 i (.agg #[.int .i64 0, .int .i64 0]) 2 at146.hu HI.out.1 HI.out.2.1 HI.out.2.2.1 .i64 .i64 _ 2 rfl rfl rfl (by rw [HI.out.2.2.2]; decide) (by decide) (Nat.le_refl _) ?_; intro W1 ho1 hg1; have HO1 := Lib.hid ho1; have HT1 := Lib.hid ((Touch.refl (fun _ => False) w).grown hg1 (fun k hk => by cases hk)); have q1 := ((HT1.out.below (Nat.le_refl _) fun _ h => h.elim).cell (p := ⟨b, off + n, none⟩) hbl).trans HQ.out; clear ho1 hg1)
    | (refine wpList_append_g at146 rfl (.tmp 17) (.tmp 24) rfl w.heap.size (.slice (some ⟨w.heap.size, 0, none⟩) 0 2) (.slice (some ⟨W1.heap.size, 0, none⟩) 1 1) 0 1 [] [.int .i64 (L : Nat), .int .i64 0] rfl rfl (World.ownsRow.alloc (w := W1) HO1.out _) (cells_two W1 147 _ _) rfl (icl_two ((L : Int), 0)) (Nat.le_trans HT1.out.size (by simp)) (by omega) (by omega) ?_; intro ao2 c2 W2 hA2; have HA2 := Lib.hid hA2; clear hA2))
  have HB2 : Hid (Below w.heap.size w W2) := Lib.hid ((HT1.out.below (Nat.le_refl _) fun _ h => h.elim).trans (((Below.refl W1.heap.size W1).alloc (Nat.le_refl _) _ |>.mono HT1.out.size).trans (HA2.out.below (World.ownsRow.alloc (w := W1) HO1.out _) (Nat.le_trans HT1.out.size (by simp)))))
  obtain ⟨h2, m2⟩ := H.out.grow HB2.out
  have k2 := HC.out.below HB2.out
  have M2 := Lib.hid m2
  have HO2 : Hid (W2.ownsRow w.heap.size 147 2 (.slice ao2 1 c2) 1 [.int .i64 (L : Nat), .int .i64 0]) := Lib.hid HA2.out.own
  clear HO1 HT1 HA2 q1 m2
  refine (item_any h2 k2).mono ?_
  rintro e w3 h3
  cases hr3 : itm bs own s with
  | bad er =>
    rw [hr3] at h3
    obtain ⟨rfl, ht⟩ := h3
    have hR := HR.out
    rw [hr3] at hR
    have HR1 := Lib.hid hR
    clear hr3 hR h2 k2
    go_wp2
    exact ⟨rfl, LB.bad HR1.out (M2.out.bad ht)⟩
  | ok x s3 =>
    rw [hr3] at h3
    obtain ⟨rfl, ov3, h3, m3⟩ := h3
    obtain ⟨hy, h0, hv⟩ := itm_is hr3 hl
    have hR := HR.out
    rw [hr3, Res.bind_ok, told_eq hy h0] at hR
    obtain ⟨y, v⟩ := x
    simp only at hy h0 hv hR
    have hne : ¬ (y = 16 ∧ row = []) := fun e => HNE.out e.2
    rw [if_neg hne] at hR
    have HR1 := Lib.hid hR
    have hU := un_two (row := row) hy h0 hv HL.out hL15
    have hlen := told1_pos y v row
    have hlen2 := told1_le (v := v) row hv
    have HU := Lib.hid hU
    have M3 := Lib.hid (M2.out.trans m3)
    have HO3 := Lib.hid (row_safe HO2.out m3.touch h2.safe)
    have H3 := Lib.hid h3
    have hbase : w.heap.size ≤ w3.heap.size := Nat.le_trans HB2.out.size m3.touch.size
    obtain ⟨t, ht⟩ : ∃ t, t = told1 y v row := ⟨_, rfl⟩
    rw [← ht] at HR1 HU hlen hlen2
    have HLEN := Lib.hid (And.intro hlen hlen2)
    clear hlen2 hr3 hR hy h0 hv hne hU m3 h2 k2 h3 ht HO2 HB2 M2 HR hlen
    go_wp2_with (refine wpList_append_g at146 rfl (.tmp 29) (.tmp 33) rfl w.heap.size (.slice ao2 1 c2) (.slice (some ⟨w3.heap.size, 0, none⟩) 1 1) 1 1 [.int .i64 (L : Nat), .int .i64 0] [.int .i64 (y : Nat), .int .i64 (v : Nat)] rfl rfl (World.ownsRow.alloc (w := w3) HO3.out _) (cells_two w3 147 _ _) rfl (icl_two ((y : Int), (v : Int))) (Nat.le_trans hbase (by simp)) (by omega) (by omega) ?_; intro ao4 c4 W4 hA4; have HA4 := Lib.hid hA4; clear hA4)
    obtain ⟨h4, m4⟩ := H3.out.built M3.out HO3.out HA4.out
    have hts : Z.TS W4 ao4 [((L : Int), 0), ((y : Int), (v : Int))] := own_ts (n := 2) (c := c4) HA4.out.own rfl
    refine (Z.unpack_any ao4 c4 [((L : Int), 0), ((y : Int), (v : Int))] W4 hts (by simp)).mono ?_
    rintro e w5 ⟨hb5, _, hs5⟩
    obtain ⟨a5, c5, rfl, i5, k5⟩ := hs5 _ HU.out
    obtain ⟨h6, m6⟩ := h4.grow hb5
    have M6 := Lib.hid (m4.trans m6)
    have H6 := Lib.hid h6
    obtain ⟨b5, o5, rfl, i6⟩ := is_tail (zs := zn t) i5
    have I6 := Lib.hid i6
    have hz : ((L : Int) :: zn t).length = t.length + 1 := by rw [List.length_cons, zn_len]
    rw [hz] at k5 ⊢
    obtain ⟨q, hq⟩ : ∃ q, q = t.length := ⟨_, rfl⟩
    rw [← hq] at k5 ⊢
    have hq1 : 1 ≤ q := by have := HLEN.out; omega
    have HQ2 := Lib.hid hq
    have hc5 : ¬ (c5 = 1) := by omega
    clear h4 m4 hts hb5 hs5 h6 m6 i5 i6 hz hq H3 M3 HO3 HA4 HU
    go_wp2_with (go_at_call 66; (with_reducible refine (must_yes _ _).mono ?_); rintro e w7 ⟨rfl, rfl⟩)
    go_ret
    exact LB.ok HR1.out HQ2.out.symm (by omega) I6.out H6.out M6.out
set_option maxHeartbeats 3200000 in
theorem behind_none {pc c : Nat} {ao : Option Addr} {own : List Nat} (h : RS B K p pb g bs lim w ov s) (hc : CodeAt w pc own) (hl : own.length = 19) :
    Calls Tryd.prog 91 #[.pointer (some ⟨p, 0, none⟩), .slice ao 0 c, .pointer (some ⟨pc, 0, none⟩)] w (LB B K p pb g bs lim w ov (nxt bs own [] s)) := by
  obtain ⟨R, hR⟩ : ∃ R, R = nxt bs own [] s := ⟨_, rfl⟩
  rw [← hR]
  unfold nxt at hR
  have HR := Lib.hid hR
  have H := Lib.hid h
  have HC := Lib.hid hc
  clear hR h hc
  obtain ⟨i, hi1, hi2, hi3, hi4⟩ := info_parts at146.info
  have HI := Lib.hid (And.intro hi1 (And.intro hi2 (And.intro hi3 hi4)))
  clear hi1 hi2 hi3 hi4
  go_enter Tryd.func91, Tryd.ntmps91
  go_wp2_with (refine wpList_make_own _ rfl _ _ 146 rfl w.heap.size 147 i (.agg #[.int .i64 0, .int .i64 0]) 2 at146.hu HI.out.1 HI.out.2.1 HI.out.2.2.1 .i64 .i64 _ 2 rfl rfl rfl (by rw [HI.out.2.2.2]; decide) (by decide) (Nat.le_refl _) ?_; intro W2 ho1 hg1; have HO2 := Lib.hid ho1; have HT1 := Lib.hid ((Touch.refl (fun _ => False) w).grown hg1 (fun k hk => by cases hk)); clear ho1 hg1)
  have HB2 : Hid (Below w.heap.size w W2) := Lib.hid (HT1.out.below (Nat.le_refl _) fun _ h => h.elim)
  obtain ⟨h2, m2⟩ := H.out.grow HB2.out
  have k2 := HC.out.below HB2.out
  have M2 := Lib.hid m2
  clear HT1 m2
  refine (item_any h2 k2).mono ?_
  rintro e w3 h3
  cases hr3 : itm bs own s with
  | bad er =>
    rw [hr3] at h3
    obtain ⟨rfl, ht⟩ := h3
    have hR := HR.out
    rw [hr3] at hR
    have HR1 := Lib.hid hR
    clear hr3 hR h2 k2
    go_wp2
    exact ⟨rfl, LB.bad HR1.out (M2.out.bad ht)⟩
  | ok x s3 =>
    rw [hr3] at h3
    obtain ⟨rfl, ov3, h3, m3⟩ := h3
    obtain ⟨hy, h0, hv⟩ := itm_is hr3 hl
    have hR := HR.out
    rw [hr3, Res.bind_ok, told_eq hy h0] at hR
    obtain ⟨y, v⟩ := x
    simp only at hy h0 hv hR
    have HR1 := Lib.hid hR
    have M3 := Lib.hid (M2.out.trans m3)
    have HO3 := Lib.hid (row_safe HO2.out m3.touch h2.safe)
    have H3 := Lib.hid h3
    have hbase : w.heap.size ≤ w3.heap.size := Nat.le_trans HB2.out.size m3.touch.size
    have HY := Lib.hid (And.intro hy (And.intro h0 hv))
    clear hr3 hR hy h0 hv m3 h2 k2 h3 HO2 HB2 M2 HR
    go_wp2_with (refine wpList_append_g at146 rfl (.tmp 29) (.tmp 33) rfl w.heap.size (.slice (some ⟨w.heap.size, 0, none⟩) 0 2) (.slice (some ⟨w3.heap.size, 0, none⟩) 1 1) 0 1 [] [.int .i64 (y : Nat), .int .i64 (v : Nat)] rfl rfl (World.ownsRow.alloc (w := w3) HO3.out _) (cells_two w3 147 _ _) rfl (icl_two ((y : Int), (v : Int))) (Nat.le_trans hbase (by simp)) (by omega) (by omega) ?_; intro ao4 c4 W4 hA4; have HA4 := Lib.hid hA4; clear hA4)
    obtain ⟨h4, m4⟩ := H3.out.built M3.out HO3.out HA4.out
    have hts : Z.TS W4 ao4 [((y : Int), (v : Int))] := own_ts (n := 1) (c := c4) HA4.out.own rfl
    refine (Z.unpack_any ao4 c4 [((y : Int), (v : Int))] W4 hts (by simp)).mono ?_
    rintro e w5 ⟨hb5, hn5, hs5⟩
    obtain ⟨h6, m6⟩ := h4.grow hb5
    have M6 := Lib.hid (m4.trans m6)
    have H6 := Lib.hid h6
    by_cases hy16 : y = 16
    · subst hy16
      have hR := HR1.out
      rw [if_pos (by simp)] at hR
      have HR2 := Lib.hid hR
      obtain rfl := hn5 (un_none v)
      clear h4 m4 hts hb5 hs5 h6 m6 H3 M3 HO3 HA4 hR hn5
      go_wp2_with (go_at_call 66; (refine (must_no 10 _).mono ?_); rintro e w7 ⟨rfl, rfl⟩)
      exact ⟨rfl, LB.bad HR2.out M6.out.touch⟩
    · have hR := HR1.out
      rw [if_neg (fun e => hy16 e.1)] at hR
      have HR2 := Lib.hid hR
      have hU := un_one (row := []) (ts := []) HY.out.1 HY.out.2.1 HY.out.2.2 (by simp) fun e => absurd e hy16
      obtain ⟨a5, c5, rfl, i5, k5⟩ := hs5 _ hU
      rw [List.nil_append] at i5 k5
      have I5 := Lib.hid i5
      have hz : ([] ++ zn (told1 y v [])).length = (told1 y v []).length := by rw [List.nil_append, zn_len]
      rw [hz]
      rw [zn_len] at k5
      have hlen := told1_pos y v []
      have hlen2 := told1_le (v := v) [] HY.out.2.2
      obtain ⟨q, hq⟩ : ∃ q, q = (told1 y v []).length := ⟨_, rfl⟩
      rw [← hq] at k5 hlen hlen2 ⊢
      have HQ2 := Lib.hid hq
      have hc5 : ¬ (c5 = 0) := by omega
      clear h4 m4 hts hb5 hs5 h6 m6 i5 hz hq H3 M3 HO3 HA4 hU hn5 hR hy16
      go_wp2_with (go_at_call 66; (with_reducible refine (must_yes _ _).mono ?_); rintro e w7 ⟨rfl, rfl⟩)
      go_ret
      exact LB.ok HR2.out HQ2.out.symm k5 I5.out H6.out M6.out
end
end Go.Proofs.YtnnkegpnjedneaaDoor

/-
  lengths and ownCode of inflate's reader.
-/
namespace Go.Proofs.YtnnkegpnjedneaaDoor
open Go.RowKit
set_option maxRecDepth 100000

theorem run_is {α : Type} {L : Nat} {f : α → Sta → Res (Bool × α)} (hf : Takes L f) (I O : α → Prop) (h : ∀ a s x s', I a → s.at_ ≤ L → f a s = .ok x s' → (x.1 = true → O x.2) ∧ (x.1 = false → I x.2)) :
    ∀ a s b t, I a → s.at_ ≤ L → run L f a s = .ok b t → O b := by
  have key : ∀ n a s b t, L - s.at_ ≤ n → I a → s.at_ ≤ L → run L f a s = .ok b t → O b := by
    intro n
    induction n with
    | zero =>
      intro a s b t hn hI hs hr
      rw [run_eq hf a hs] at hr
      obtain ⟨x, s', h1, h2⟩ := Res.bind_is hr
      have := hf a s x s' hs h1
      omega
    | succ n ih =>
      intro a s b t hn hI hs hr
      rw [run_eq hf a hs] at hr
      obtain ⟨x, s', h1, h2⟩ := Res.bind_is hr
      have h3 := hf a s x s' hs h1
      have h4 := h a s x s' hI hs h1
      split at h2
      · rename_i hx; cases h2; exact h4.1 hx
      · rename_i hx; exact ih x.2 s' b t (by omega) (h4.2 (by simpa using hx)) h3.2 h2
  exact fun a s b t hI hs hr => key _ a s b t (Nat.le_refl _) hI hs hr

section
variable {B K p pb : Nat} {g : Option Nat} {bs : List Nat} {lim : Nat} {w : World} {ov : Value} {s : Sta}
theorem told1_small {y v : Nat} {row : List Nat} (hy : y ≤ 18) (hr : ∀ x ∈ row, x ≤ 15) : ∀ x ∈ told1 y v row, x ≤ 15 := by
  intro x hx
  unfold told1 at hx
  rw [List.mem_replicate] at hx
  rw [hx.2]
  split
  · rw [List.getLastD_eq_getLast?]
    cases hl : row.getLast? with
    | none => exact Nat.zero_le _
    | some z => exact hr z (List.mem_of_getLast? hl)
  · split
    · exact Nat.zero_le _
    · split
      · exact Nat.zero_le _
      · omega
theorem nxt_is {own row t : List Nat} {s1 : Sta} (h : nxt bs own row s = .ok t s1) (hl : own.length = 19) (hr : ∀ x ∈ row, x ≤ 15) (hs : s.at_ ≤ 8 * bs.length) : (∀ x ∈ t, x ≤ 15) ∧ 1 ≤ t.length ∧ t.length ≤ 138 ∧ s.at_ < s1.at_ := by
  obtain ⟨x, s', h1, h2⟩ := Res.bind_is h
  obtain ⟨hy, h0, hv⟩ := itm_is h1 hl
  have h3 := itm_le (lim := 0) own hs h1
  rw [told_eq hy h0] at h2
  split at h2
  · cases h2
  · rename_i ht
    split at ht
    · cases ht
    · cases ht
      cases h2
      exact ⟨told1_small hy hr, told1_pos _ _ _, told1_le _ hv, h3.1⟩
theorem len1_nxt (own : List Nat) (n : Nat) (row : List Nat) (s : Sta) : len1 bs own n row s = (nxt bs own row s).bind fun t s1 => if n < (row ++ t).length then .bad 10 else .ok (decide ((row ++ t).length = n), row ++ t) s1 := by
  unfold len1 nxt
  cases itm bs own s with
  | bad e => rfl
  | ok x s1 =>
    simp only [Res.bind_ok]
    cases told x.1 x.2 row with
    | none => rfl
    | some t => rfl
theorem lens_eq (own : List Nat) (n : Nat) (row : List Nat) {s : Sta} (hs : s.at_ ≤ 8 * bs.length) : run (8 * bs.length) (len1 bs own n) row s = (nxt bs own row s).bind fun t s1 =>
    if n < (row ++ t).length then .bad 10 else if (row ++ t).length = n then .ok (row ++ t) s1 else run (8 * bs.length) (len1 bs own n) (row ++ t) s1 := by
  rw [run_eq (len1_takes own n) row hs, len1_nxt]
  cases nxt bs own row s with
  | bad e => rfl
  | ok t s1 =>
    simp only [Res.bind_ok]
    split
    · rfl
    · simp only [Res.bind_ok, decide_eq_true_eq]
theorem lens_is {own row : List Nat} {n : Nat} {t : Sta} (hl : own.length = 19) (hs : s.at_ ≤ 8 * bs.length) (h : lens bs own n s = .ok row t) : row.length = n ∧ ∀ x ∈ row, x ≤ 15 := by
  refine run_is (len1_takes own n) (fun row => ∀ x ∈ row, x ≤ 15) (fun row => row.length = n ∧ ∀ x ∈ row, x ≤ 15) (fun a s x s' hI hs hx => ?_) [] s row t (fun x hx => by simp at hx) hs h
  rw [len1_nxt] at hx
  obtain ⟨t, s1, h1, h2⟩ := Res.bind_is hx
  obtain ⟨k1, k2, k3, k4⟩ := nxt_is h1 hl hI hs
  split at h2
  · cases h2
  · cases h2
    have hall : ∀ x ∈ a ++ t, x ≤ 15 := fun x hx => by
      rcases List.mem_append.1 hx with hx | hx
      · exact hI x hx
      · exact k1 x hx
    exact ⟨fun he => ⟨by simpa using he, hall⟩, fun _ => hall⟩

theorem behind_any {pc c n : Nat} {ao : Option Addr} {own row : List Nat} (h : RS B K p pb g bs lim w ov s) (hc : CodeAt w pc own) (hl : own.length = 19) (hr : IS w ao (zn row)) (hn : row.length = n) (hrl : row.length ≤ 320) (hr15 : ∀ x ∈ row, x ≤ 15) :
    Calls Tryd.prog 91 #[.pointer (some ⟨p, 0, none⟩), .slice ao n c, .pointer (some ⟨pc, 0, none⟩)] w (LB B K p pb g bs lim w ov (nxt bs own row s)) := by
  subst hn
  by_cases hne : row = []
  · subst hne
    exact behind_none h hc hl
  · exact behind_some h hc hl hr hrl hr15 hne

/-- How the row and the reading stand at a round's head. -/
def Lst (bs own : List Nat) (n : Nat) (R : Res (List Nat)) (row : List Nat) (s : Sta) : Prop :=
  (row.length < n ∧ run (8 * bs.length) (len1 bs own n) row s = R) ∨ (row.length = n ∧ R = .ok row s) ∨ (n < row.length ∧ R = .bad 10)
structure Lx (B K p pb : Nat) (g : Option Nat) (bs : List Nat) (lim : Nat) (w : World) (ov : Value) (pc : Nat) (own : List Nat) (ao : Option Addr) (c : Nat) (wr : World) (ov' : Value) (s' : Sta) (row : List Nat) : Prop where
  rs : RS B K p pb g bs lim wr ov' s'
  mv : Mv p pb w ov wr ov'
  code : CodeIn wr w.heap.size pc own
  own_ : wr.ownsRow w.heap.size 3 1 (.slice ao row.length c) row.length (iv (zn row))
  small : ∀ x ∈ row, x ≤ 15

theorem row3_touch {w1 W : World} (hK : K ≤ w.heap.size) {ov1 v : Value} {s1 : Sta} {n : Nat} {xs : List Value} (h : RS B K p pb g bs lim W ov1 s1) (m : Mv p pb w ov W ov1) (hrow : W.ownsRow w.heap.size 3 1 v n xs) (ht : Touch (fun k => v.ownBlock = some k) W w1) :
    RS B K p pb g bs lim w1 ov1 s1 ∧ Mv p pb w ov w1 ov1 := by
  cases hv : v.ownBlock with
  | none =>
    obtain ⟨h2, m2⟩ := h.grow (ht.below (Nat.le_refl _) fun k hk => by rw [hv] at hk; cases hk)
    exact ⟨h2, m.trans m2⟩
  | some k =>
    obtain ⟨cs, hc⟩ := own_ty hrow hv
    exact item_end h m (show Blk W k 3 cs from hc) (.inr ⟨.inl rfl, Nat.le_trans hK (hrow.lt k hv).1⟩) (hrow.lt k hv).1 (ht.mono fun i hi => by rw [hv] at hi; cases hi; rfl)
theorem row3_code {w1 W : World} {v : Value} {n pc : Nat} {ls : List Nat} {xs : List Value} (h : CodeIn W w.heap.size pc ls) (hrow : W.ownsRow w.heap.size 3 1 v n xs) (ht : Touch (fun k => v.ownBlock = some k) W w1) : CodeIn w1 w.heap.size pc ls := by
  cases hv : v.ownBlock with
  | none => exact h.safe (ht.mono (T := fun _ => False) fun k hk => by rw [hv] at hk; cases hk) (fun _ _ _ _ h => h.elim)
  | some k =>
    obtain ⟨cs, hc⟩ := own_ty hrow hv
    exact h.aside (show Blk W k 3 cs from hc) (ht.mono fun i hi => by rw [hv] at hi; cases hi; rfl) ⟨by decide, by decide, fun _ => (hrow.lt k hv).1⟩

set_option maxHeartbeats 3200000 in
theorem lengths_any {pc n : Nat} {own : List Nat} (hK : K ≤ w.heap.size) (h : RS B K p pb g bs lim w ov s) (hc : CodeAt w pc own) (hl : own.length = 19) (hn1 : 1 ≤ n) (hn : n ≤ 320) :
    Calls Tryd.prog 82 #[.pointer (some ⟨p, 0, none⟩), .pointer (some ⟨pc, 0, none⟩), .int .i64 n] w (LB B K p pb g bs lim w ov (lens bs own n s)) := by
  obtain ⟨R, hR⟩ : ∃ R, R = lens bs own n s := ⟨_, rfl⟩
  rw [← hR]
  have HL0 : Hid (Lst bs own n R [] s) := Lib.hid (.inl ⟨by simp; omega, hR.symm⟩)
  have H := Lib.hid h
  have HK := Lib.hid hK
  have HC := Lib.hid hc.in_
  clear hR h hc hK
  obtain ⟨i, hi1, hi2, hi3, hi4⟩ := info_parts at22.info
  have HI := Lib.hid (And.intro hi1 (And.intro hi2 (And.intro hi3 hi4)))
  clear hi1 hi2 hi3 hi4
  go_enter Tryd.func82, Tryd.ntmps82
  go_wp2_with (refine wpList_make_own _ rfl _ _ 29 rfl w.heap.size 3 i (.int .i64 0) 1 at22.hu HI.out.1 HI.out.2.1 HI.out.2.2.1 .i64 .i64 _ n rfl rfl rfl (by rw [HI.out.2.2.2]; omega) (by unfold maxLen; omega) (Nat.le_refl _) ?_; intro W1 ho1 hg1; have HO1 := Lib.hid ho1; have HT1 := Lib.hid ((Touch.refl (fun _ => False) w).grown hg1 (fun k hk => by cases hk)); clear ho1 hg1)
  have HX0 : Hid (Lx B K p pb g bs lim w ov pc own (some ⟨w.heap.size, 0, none⟩) n W1 ov s []) := Lib.hid (by
    have hb : Below w.heap.size w W1 := HT1.out.below (Nat.le_refl _) fun _ h => h.elim
    obtain ⟨h2, m2⟩ := H.out.grow hb
    exact ⟨h2, m2, HC.out.safe (Touch.of_below hb : Touch (fun _ => False) w W1) (fun _ _ _ _ h => h.elim), HO1.out, fun x hx => by simp at hx⟩)
  clear HO1 HT1 H HC
  go_loopg [7] (8 * bs.length + 1) (fun gm v wr => ∃ (row : List Nat) (s' : Sta) (ao : Option Addr) (c : Nat) (ov' : Value), 8 * bs.length + 1 - s'.at_ ≤ gm ∧ v = .slice ao row.length c ∧ Hid (Lst bs own n R row s') ∧ row.length ≤ 600 ∧ Lx B K p pb g bs lim w ov pc own ao c wr ov' s' row)
  case atStart => exact ⟨[], s, _, n, ov, by omega, rfl, HL0, by simp, HX0.out⟩
  case round =>
    clear HX0 HL0
    obtain ⟨row, s1, ao, c, ov1, hgm, rfl, HS, hr6, hx⟩ := hrel
    have HX := Lib.hid hx
    have hin := hx.rs.in_
    clear hx
    rcases HS.out with ⟨hlt, hrun⟩ | ⟨heq, hRe⟩ | ⟨hgt, hRe⟩
    · have hRR := hrun.symm
      rw [lens_eq own n row hin] at hRR
      have HR := Lib.hid hRR
      have hlt' : (row.length : Int) < n := by omega
      have hI := HX.out.own_
      have HI2 := Lib.hid (own_is hI (zn_len row))
      clear hrun hRR hI
      go_wp2_with fail
      refine (behind_any HX.out.rs HX.out.code.at_ hl HI2.out rfl (by omega) HX.out.small).mono ?_
      rintro e w2 h2
      have hRR := HR.out
      cases hr1 : nxt bs own row s1 with
      | bad er =>
        rw [hr1] at h2 hRR
        obtain ⟨rfl, ht⟩ := h2
        have HR1 := Lib.hid hRR
        clear hr1 hRR
        go_wp2
        exact ⟨rfl, LB.bad HR1.out (HX.out.mv.bad ht)⟩
      | ok t s2 =>
        rw [hr1, Res.bind_ok] at hRR
        rw [hr1] at h2
        obtain ⟨a2, c2, rfl, ⟨i2, _⟩, ov2, h2, m2⟩ := h2
        obtain ⟨k1, k2, k3, k4⟩ := nxt_is hr1 hl HX.out.small hin
        have HR1 := Lib.hid hRR
        have hsf := HX.out.rs.safe
        have HC2 := Lib.hid (HX.out.code.safe m2.touch hsf)
        have HO2 : Hid (w2.ownsRow w.heap.size 3 1 (.slice ao row.length c) row.length (iv (zn row))) := Lib.hid (ownsRow_touch HX.out.own_ m2.touch fun k hk e => by
          obtain ⟨cs, hc⟩ := own_ty HX.out.own_ hk
          rcases hsf k 3 cs hc e with x | x | x <;> simp at x)
        have H2 := Lib.hid h2
        have M2 := Lib.hid (HX.out.mv.trans m2)
        have hne : zn t ≠ [] := fun e => by have := zn_len t; rw [e] at this; simp at this; omega
        have HCA : Hid (CellsAt w2 (.slice a2 t.length c2) t.length (iv (zn t))) := Lib.hid (by have := i2.cells (c := c2) fun e => absurd e hne; rwa [zn_len] at this)
        have hsz : w.heap.size ≤ w2.heap.size := M2.out.touch.size
        have HSM : Hid (∀ x ∈ row ++ t, x ≤ 15) := Lib.hid fun x hx => by
          rcases List.mem_append.1 hx with hx | hx
          · exact HX.out.small x hx
          · exact k1 x hx
        clear hr1 hRR h2 m2 i2 hne hsf k1
        go_wp2_with (refine wpList_append_g at22 rfl (.tmp 14) (.tmp 18) rfl w.heap.size (.slice ao row.length c) (.slice a2 t.length c2) row.length t.length (iv (zn row)) (iv (zn t)) rfl rfl HO2.out HCA.out (by simp [iv_len, zn_len]) (iv_one _) hsz (by omega) (by omega) ?_; intro ao3 c3 W3 hA; have HA := Lib.hid hA; clear hA)
        go_roundg (8 * bs.length + 1 - s2.at_)
        case measure => omega
        case rel =>
          have hrow : (row ++ t).length = row.length + t.length := List.length_append
          refine ⟨row ++ t, s2, ao3, c3, ov2, Nat.le_refl _, by rw [hrow], ?_, by omega, ?_⟩
          · have hR1 := HR1.out
            by_cases g1 : n < (row ++ t).length
            · rw [if_pos g1] at hR1
              exact Lib.hid (.inr (.inr ⟨g1, hR1⟩))
            · rw [if_neg g1] at hR1
              by_cases g2 : (row ++ t).length = n
              · rw [if_pos g2] at hR1
                exact Lib.hid (.inr (.inl ⟨g2, hR1⟩))
              · rw [if_neg g2] at hR1
                exact Lib.hid (.inl ⟨by omega, hR1.symm⟩)
          · have hA3 := HA.out
            have ho := hA3.own
            rw [iv_app, ← zn_app, ← hrow] at ho
            obtain ⟨h5, m5⟩ := row3_touch HK.out H2.out M2.out HO2.out hA3.touch
            exact ⟨h5, m5, row3_code HC2.out HO2.out hA3.touch, ho, HSM.out⟩
    · have hge : (n : Int) ≤ row.length := by omega
      have d1 : ((row.length : Int) == n) = true := by simp; omega
      have HRE := Lib.hid hRe
      have HQE := Lib.hid heq
      have HI2 := Lib.hid (own_is HX.out.own_ (zn_len row))
      clear hRe heq
      go_wp2_with (go_at_call 66; (with_reducible refine (must_yes _ _).mono ?_); rintro e w7 ⟨rfl, rfl⟩)
      go_ret
      exact LB.ok HRE.out rfl (Z.own_cap HX.out.own_) HI2.out HX.out.rs HX.out.mv
    · have hge : (n : Int) ≤ row.length := by omega
      have d1 : ((row.length : Int) == n) = false := by simp; omega
      have HRE := Lib.hid hRe
      clear hRe hgt
      go_wp2_with (go_at_call 66; (refine (must_no 10 _).mono ?_); rintro e w7 ⟨rfl, rfl⟩)
      exact ⟨rfl, LB.bad HRE.out HX.out.mv.touch⟩
end
end Go.Proofs.YtnnkegpnjedneaaDoor

/-
  ownCode of inflate's reader.
-/
namespace Go.Proofs.YtnnkegpnjedneaaDoor
open Go.RowKit
set_option maxRecDepth 100000

/-- The order stands in its variable. -/
def Tab (w : World) : Prop := ∀ j, j < 19 → w.cell? ⟨0, j, none⟩ = some (.int .i64 (ord.getD j 0 : Nat))
theorem Tab.touch {S : Nat → Prop} {w w' : World} (h : Tab w) (ht : Touch S w w') (hs : ¬ S 0) : Tab w' := fun j hj => by
  have h1 := h j hj
  rw [← h1]
  exact World.cell?_of_block (ht.block 0 (World.block_lt_of_cell? w _ h1) hs)
theorem Tab.below {w w' : World} (h : Tab w) (hb : Below w.heap.size w w') : Tab w' := h.touch (Touch.of_below hb : Touch (fun _ => False) w w') fun h => h
theorem Tab.pos {w : World} (h : Tab w) : 0 < w.heap.size := World.block_lt_of_cell? w _ (h 0 (by omega))

theorem ord_idx : ∀ i, i < 19 → ∀ k, k < 19 → (ord.idxOf i = k ↔ i = ord.getD k 0) := by decide +kernel
theorem ord_lt : ∀ k, k < 19 → ord.getD k 0 < 19 := by decide +kernel
theorem ownOf_len (l : List Nat) : (ownOf l).length = 19 := by simp [ownOf]
theorem ownOf_at (l : List Nat) (i : Nat) (h : i < 19) : (ownOf l).getD i 0 = l.getD (ord.idxOf i) 0 := by simp [ownOf, List.getD, h]
theorem ownOf_set (l : List Nat) (v : Nat) (hl : l.length < 19) : (ia 19 fun j => (ownOf l).getD j 0).setIfInBounds (ord.getD l.length 0) (.int .i64 (v : Nat)) = ia 19 fun j => (ownOf (l ++ [v])).getD j 0 := by
  refine ia_set 19 _ _ _ v fun i hi => ?_
  rw [ownOf_at _ _ hi, ownOf_at _ _ hi]
  have h := ord_idx i hi l.length hl
  by_cases h1 : ord.idxOf i = l.length
  · rw [if_pos (h.1 h1), h1]
    simp [List.getD]
  · rw [if_neg (fun e => h1 (h.2 e))]
    simp only [List.getD_eq_getElem?_getD, List.getElem?_append]
    split
    · rfl
    · rename_i h2
      rw [List.getElem?_eq_none (by omega : l.length ≤ _)]
      rw [List.getElem?_eq_none (by simp; omega)]
theorem ownOf_nil : (ia 19 fun j => (ownOf []).getD j 0) = va (19 * 1) fun i => (Value.int .i64 0).cells[i % (Value.int .i64 0).cells.size]! := by
  refine va_congr fun i hi => ?_
  show Value.int .i64 (((ownOf []).getD i 0 : Nat) : Int) = _
  rw [ownOf_at _ _ (by omega)]
  simp [Value.cells, Nat.mod_one]
theorem rdO_is {bs : List Nat} : ∀ k l (s : Sta) o t, rdO bs k l s = .ok o t → o.length = l.length + k ∧ ((∀ x ∈ l, x < 8) → ∀ x ∈ o, x < 8) := by
  intro k
  induction k with
  | zero => intro l s o t h; cases h; exact ⟨rfl, id⟩
  | succ k ih =>
    intro l s o t h
    obtain ⟨v, s1, h1, h2⟩ := Res.bind_is h
    obtain ⟨h3, h4⟩ := ih _ _ _ _ h2
    refine ⟨by rw [h3]; simp; omega, fun hl => h4 fun x hx => ?_⟩
    rcases List.mem_append.1 hx with hx | hx
    · exact hl x hx
    · rw [List.mem_singleton.1 hx]; exact rdN_lt h1
theorem ownOf_small {o : List Nat} (h : ∀ x ∈ o, x < 8) : ∀ x ∈ ownOf o, x ≤ 15 := by
  intro x hx
  simp [ownOf] at hx
  obtain ⟨j, _, rfl⟩ := hx
  cases hj : o[ord.idxOf j]? with
  | none => simp
  | some y => have := h y (List.mem_of_getElem? hj); simp; omega

theorem enter52 (A : Array Value) (w : World) : (callFunc 52 A).run Tryd.prog w = .ok (.enter 52 A) w := by kernel_rfl
theorem step_panics {ops : Array Oper} {o : Oper} {a : Act} {w : World} {K : Act → World → Prop} {Q : Exit → Act → World → Prop} {E : Prop} (hw : Region.wanted o (yielded ops a.tmps) = true) (f : FuncId) (args : Array Value)
    (hr : (execOp a.eval o).run Tryd.prog w = .ok (.enter f args) w) (hc : Calls Tryd.prog f args w fun e w' => ∃ ch, e = .panicked ch ∧ Q (.panic ch) a w') :
    if Region.wanted o (yielded ops a.tmps) = true then Oper.wp Tryd.prog o a w K Q else E := by
  rw [if_pos hw]
  unfold Oper.wp
  rw [hr]
  exact hc.mono (by rintro e w' ⟨ch, rfl, hR⟩; exact hR)

section
variable {B K p pb : Nat} {g : Option Nat} {bs : List Nat} {lim : Nat} {w : World} {ov : Value} {s : Sta}
/-- What the reading of the items' code leaves. -/
def OC (B K p pb : Nat) (g : Option Nat) (bs : List Nat) (lim : Nat) (w : World) (ov : Value) (r : Res (List Nat)) (e : Ending) (w' : World) : Prop :=
  match r with
  | .bad er => RBad p pb w ov er e w'
  | .ok o s => ∃ pc, e = .returned (.pointer (some ⟨pc, 0, none⟩)) ∧ CodeAt w' pc (ownOf o) ∧ ∃ ov', RS B K p pb g bs lim w' ov' s ∧ Mv p pb w ov w' ov'
theorem OC.bad {R : Res (List Nat)} {er : Nat} {w' : World} (e : R = .bad er) (ht : Touch (FT p pb ov) w w') : OC B K p pb g bs lim w ov R (pan er) w' := by
  subst e; exact ⟨rfl, ht⟩
def ownR (bs : List Nat) (n : Nat) (s : Sta) : Res (List Nat) := (rdO bs n [] s).bind fun o s4 => if room (ownOf o) ≠ 32768 then .bad 10 else .ok o s4

/-- While the lengths are told. -/
structure Ox (B K p pb : Nat) (g : Option Nat) (bs : List Nat) (lim : Nat) (w : World) (ov : Value) (q : Nat) (l : List Nat) (wr : World) (ov' : Value) (s' : Sta) : Prop where
  rs : RS B K p pb g bs lim wr ov' s'
  mv : Mv p pb w ov wr ov'
  row : Blk wr q 3 (ia 19 fun j => (ownOf l).getD j 0)
  tab : Tab wr

set_option maxHeartbeats 3200000 in
theorem ownCode_any {n : Nat} (hK : K ≤ w.heap.size) (hB : 0 < B) (hT : Tab w) (h : RS B K p pb g bs lim w ov s) (hn : n ≤ 19) :
    Calls Tryd.prog 81 #[.pointer (some ⟨p, 0, none⟩), .int .i64 n] w (OC B K p pb g bs lim w ov (ownR bs n s)) := by
  obtain ⟨R, hR⟩ : ∃ R, R = ownR bs n s := ⟨_, rfl⟩
  rw [← hR]
  unfold ownR at hR
  obtain ⟨R0, hR0⟩ : ∃ R0, R0 = rdO bs n [] s := ⟨_, rfl⟩
  rw [← hR0] at hR
  have HR := Lib.hid hR
  have HR0 : Hid (rdO bs (n - ([] : List Nat).length) [] s = R0 ∧ ∀ x ∈ ([] : List Nat), x < 8) := Lib.hid ⟨hR0.symm, fun x hx => by simp at hx⟩
  obtain ⟨q, hq⟩ : ∃ q, q = w.heap.size := ⟨_, rfl⟩
  have HQ := Lib.hid hq
  have H := Lib.hid h
  have HK := Lib.hid hK
  have HT := Lib.hid hT
  have HW0 := Lib.hid hT.pos
  have HBp := Lib.hid hB
  clear hR hR0 h hT hq hK hB
  go_enter Tryd.func81, Tryd.ntmps81
  go_wp2_with (refine wpList_make_z rfl 29 (.const (.int .i64 19)) (.const (.int .i64 19)) rfl 3 (.int .i64 0) 1 8 19 Tryd.underlying29 (by kernel_rfl) .i64 .i64 _ _ rfl rfl rfl rfl (by omega) (by omega) ?_; intro W1 hb1 ht1 hs1; rw [← ownOf_nil, ← HQ.out] at hb1; rw [← HQ.out]; have HW1 := Lib.hid hb1; have HT1 := Lib.hid ht1; clear hb1 ht1 hs1)
  have HX0 : Hid (Ox B K p pb g bs lim w ov q [] W1 ov s) := Lib.hid (by
    have hb : Below w.heap.size w W1 := HT1.out.below (Nat.le_refl _) fun _ h => h.elim
    obtain ⟨h2, m2⟩ := H.out.grow hb
    exact ⟨h2, m2, HW1.out, HT.out.below hb⟩)
  clear HW1 HT1 H HT
  go_loopw [6, 10] (fun _ iv' wr => ∃ (l : List Nat) (s' : Sta) (ov' : Value), l.length ≤ n ∧ iv' = .int .i64 l.length ∧ Hid (rdO bs (n - l.length) l s' = R0 ∧ ∀ x ∈ l, x < 8) ∧ Ox B K p pb g bs lim w ov q l wr ov' s') (fun _ iv' _ => n - (intOf iv').toNat)
  case atStart => exact ⟨[], s, ov, Nat.zero_le _, rfl, HR0, HX0.out⟩
  case round =>
    clear HX0 HR0
    obtain ⟨l, s1, ov1, hl, rfl, HS, hx⟩ := hrel
    have HX := Lib.hid hx
    clear hx
    by_cases hlt : l.length < n
    · obtain ⟨i, hi⟩ : ∃ i, i = l.length := ⟨_, rfl⟩
      have hi19 : i < 19 := by omega
      obtain ⟨o, ho⟩ : ∃ o, o = ord.getD i 0 := ⟨_, rfl⟩
      have ho19 : o < 19 := by rw [ho]; exact ord_lt i hi19
      have t0 := HX.out.tab i hi19
      rw [← ho] at t0
      have hD := HX.out.rs.drewN 1
      have hN := number_any hD.1 3 (by omega)
      have hS := HS.out.1
      rw [show n - l.length = (n - l.length - 1) + 1 by omega, rdO] at hS
      have HO := Lib.hid (And.intro hi ho)
      cases hr : rdN bs 3 s1 with
      | bad er =>
        rw [hr] at hN hS
        have HN : Hid (Calls Tryd.prog 52 #[.pointer (some ⟨p, 0, none⟩), .int .i64 3] wr.drew (RBad p pb wr.drew ov1 er)) := Lib.hid hN
        have FIN : Hid (∀ w2, RBad p pb wr.drew ov1 er (pan er) w2 → OC B K p pb g bs lim w ov R (pan er) w2) := Lib.hid fun w2 h2 => by
          refine OC.bad ?_ ((HX.out.mv.trans hD.2).bad h2.2)
          rw [HR.out, ← hS]
          rfl
        have hin : (i : Int) < n := by omega
        have hi0 : (0 : Int) ≤ i := by omega
        have hi9 : (i : Int) < 19 := by omega
        clear hN hS hr hD ho
        rw [← hi]
        clear hi hlt hl
        go_wp2
        refine wp_region_held_drew (S := fun W => W.cell? ⟨0, i, none⟩ = some (.int .i64 (o : Nat))) (by kernel_rfl) t0 (fun hHeld => ?_)
        refine wpAnyH_take (i := 0) (v := .slice (some ⟨q, 0, none⟩) 19 19) (oi := { dst := some 13, op := Op.move (Operand.tmp 5), type := 29, pos := "inflate.go:217", after := #[], guard := none }) rfl (by kernel_rfl) (by kernel_rfl) (by kernel_rfl) (fun _ _ _ h => h) (Or.inl ⟨by rfl, fun W hSw => by go_simp⟩) hHeld ?_
        try simp only [Act.put, List.setIfInBounds_toArray, List.set_cons_zero, List.set_cons_succ]
        refine wpAnyH_take (i := 1) (v := .int .i64 i) (oi := { dst := some 14, op := Op.move (Operand.tmp 6), type := 3, pos := "inflate.go:217", after := #[], guard := none }) rfl (by kernel_rfl) (by kernel_rfl) (by kernel_rfl) (fun _ _ _ h => h) (Or.inl ⟨by rfl, fun W hSw => by go_simp⟩) hHeld ?_
        try simp only [Act.put, List.setIfInBounds_toArray, List.set_cons_zero, List.set_cons_succ]
        refine wpAnyH_take (i := 2) (v := .pointer (some ⟨0, i, none⟩)) (oi := { dst := some 15, op := Op.indexAddr 142 (Operand.global 0) (Operand.tmp 14), type := 0, pos := "inflate.go:217", after := #[{ on := 1, ground := Ground.data }], guard := none }) rfl (by kernel_rfl) (by kernel_rfl) (by kernel_rfl) (fun _ _ _ h => h) (Or.inl ⟨by rfl, fun W hSw => by go_simp⟩) hHeld ?_
        try simp only [Act.put, List.setIfInBounds_toArray, List.set_cons_zero, List.set_cons_succ]
        refine wpAnyH_take (i := 3) (v := .int .i64 (o : Nat)) (oi := { dst := some 16, op := Op.load 3 (Operand.tmp 15), type := 3, pos := "inflate.go:217", after := #[{ on := 2, ground := Ground.data }], guard := none }) rfl (by kernel_rfl) (by kernel_rfl) (by kernel_rfl) (fun _ _ _ h => h) (Or.inl ⟨by rfl, fun W hSw => by go_simp⟩) hHeld ?_
        try simp only [Act.put, List.setIfInBounds_toArray, List.set_cons_zero, List.set_cons_succ]
        refine wpAnyH_take (i := 4) (v := .pointer (some ⟨p, 0, none⟩)) (oi := { dst := some 17, op := Op.move (Operand.tmp 0), type := 62, pos := "inflate.go:217", after := #[], guard := none }) rfl (by kernel_rfl) (by kernel_rfl) (by kernel_rfl) (fun _ _ _ h => h) (Or.inl ⟨by rfl, fun W hSw => by go_simp⟩) hHeld ?_
        try simp only [Act.put, List.setIfInBounds_toArray, List.set_cons_zero, List.set_cons_succ]
        refine wpAnyH_ready (rs := [5]) (by kernel_rfl) (by simp) ?_
        refine AllReadyH.cons (o := { dst := some 18, op := Op.call { callee := Callee.value (Operand.func 52), args := #[Operand.tmp 17, Operand.const (Value.int IntKind.i64 3)], argTypes := #[62, 3] }, type := 3, pos := "inflate.go:217", after := #[{ on := 4, ground := Ground.data }], guard := none }) rfl (fun K hK => ?_) AllReadyH.nil
        refine step_panics (by rfl) _ _ (Z.run_call2 (.func 52) (.tmp 17) (.const (.int .i64 3)) _ 52 #[] (.pointer (some ⟨p, 0, none⟩)) (.int .i64 3) (fun _ => enter52 _ _) rfl rfl rfl rfl) ?_
        refine HN.out.mono ?_
        rintro e w2 ⟨rfl, ht⟩
        exact ⟨_, rfl, rfl, FIN.out _ ⟨rfl, ht⟩⟩
      | ok v s2 =>
        rw [hr] at hN hS
        rw [Res.bind_ok] at hS
        have HN : Hid (Calls Tryd.prog 52 #[.pointer (some ⟨p, 0, none⟩), .int .i64 3] wr.drew (ROk B K p pb g bs lim wr.drew ov1 (.int .i64 (v : Nat)) s2)) := Lib.hid hN
        have HV8 : Hid (∀ x ∈ l ++ [v], x < 8) := Lib.hid fun x hx => by
          rcases List.mem_append.1 hx with hx | hx
          · exact HS.out.2 x hx
          · rw [List.mem_singleton.1 hx]; exact rdN_lt hr
        have HS1 := Lib.hid hS
        have hq0 := hD.1
        have hB0 := HBp.out
        have AFT : Hid (∀ w2 ov2, RS B K p pb g bs lim w2 ov2 s2 → Mv p pb wr.drew ov1 w2 ov2 →
            w2.cell? ⟨0, i, none⟩ = some (.int .i64 (o : Nat)) ∧ w2.frozen? ⟨q, o, none⟩ = false ∧ w2.cell? ⟨q, o, none⟩ = some (.int .i64 ((ownOf l).getD o 0 : Nat)) ∧ Hid (Ox B K p pb g bs lim w ov q (l ++ [v]) (w2.setCell ⟨q, o, none⟩ (.int .i64 (v : Nat))) ov2 s2)) := Lib.hid fun w2 ov2 h2 m2 => by
          have hrow : Blk wr.drew q 3 (ia 19 fun j => (ownOf l).getD j 0) := HX.out.row
          have hr2 := hrow.safe m2.touch hq0.safe (by decide)
          have htab : Tab wr.drew := HX.out.tab
          have ht2 := htab.touch m2.touch fun h0 => by have := hq0.base 0 h0; omega
          have hi2 := ht2 i hi19
          rw [← ho] at hi2
          refine ⟨hi2, hr2.free o, (hr2.cell o).trans (va_at 19 _ o ho19), Lib.hid ?_⟩
          have hset : Touch (fun k => k = q) w2 (w2.setCell ⟨q, o, none⟩ (.int .i64 (v : Nat))) := (Touch.refl _ w2).setCell _ _ (.inl rfl)
          have hqw : w.heap.size ≤ q := Nat.le_of_eq HQ.out.symm
          obtain ⟨h3, m3⟩ := item_end h2 ((HX.out.mv.trans hD.2).trans m2) hr2 (.inr ⟨.inl rfl, Nat.le_trans HK.out hqw⟩) hqw hset
          refine ⟨h3, m3, ?_, ht2.touch hset fun e => ?_⟩
          · have := hr2.setCell o (.int .i64 (v : Nat))
            have h5 := ownOf_set l v (by omega)
            rw [← hi, ← ho] at h5
            rwa [h5] at this
          · have h6 := HW0.out
            have h7 : q = 0 := e.symm
            have hz := HQ.out
            omega
        have hin : (i : Int) < n := by omega
        have ho19' : (o : Int) < 19 := by omega
        have ho0 : (0 : Int) ≤ o := by omega
        have hi0 : (0 : Int) ≤ i := by omega
        have hi9 : (i : Int) < 19 := by omega
        clear hN hS hr hD ho hq0 hB0
        rw [← hi]
        clear hi
        go_wp2
        go_region_with (go_at_call 52; (refine HN.out.mono ?_); rintro e w2 ⟨rfl, ov2, h2, m2⟩; obtain ⟨c1, c2, c3, c4⟩ := AFT.out w2 ov2 h2 m2; have C4 := Lib.hid c4; clear h2 m2 c4)
        all_goals
          go_wp2
          go_roundw
          case rel =>
            refine ⟨l ++ [v], s2, ov2, by simp; omega, ?_, ?_, C4.out⟩
            · have := HO.out.1
              simp only [List.length_append, List.length_singleton]
              rw [← this]
              go_num
            · have h6 := HS1.out
              have h7 := HO.out.1
              rw [← h6]
              rw [List.length_append, List.length_singleton]
              exact Lib.hid ⟨by congr 1, HV8.out⟩
          case measure => have := HO.out.1; simp [intOf]; omega
    · have hge : (n : Int) ≤ l.length := by omega
      have hln : l.length = n := by omega
      have hS := HS.out.1
      rw [hln, Nat.sub_self] at hS
      have hR1 := HR.out
      rw [← hS] at hR1
      simp only [rdO, Res.bind_ok] at hR1
      have HR1 := Lib.hid hR1
      have HI : Hid (IS wr (some ⟨q, 0, none⟩) (zn (ownOf l))) := Lib.hid (blk_is HX.out.row (zn (ownOf l)) (by rw [zn_len, ownOf_len]) fun j _ => zn_at _ _)
      have HV : Hid (Vd (zn (ownOf l))) := Lib.hid ⟨by rw [zn_len, ownOf_len]; omega, fun z hz => by
        unfold zn at hz
        obtain ⟨x, hx, rfl⟩ := List.mem_map.1 hz
        have := ownOf_small HS.out.2 x hx
        omega⟩
      have HZL : Hid ((zn (ownOf l)).length = 19) := Lib.hid (by rw [zn_len, ownOf_len])
      clear hS hR1 hln hlt hl
      go_wp2_with fail
      by_cases hro : room (ownOf l) ≤ 32768
      · refine (codeOf_yes (some ⟨q, 0, none⟩) 19 19 (zn (ownOf l)) _ HI.out HZL.out HV.out (by rw [zn_nat]; exact hro)).mono ?_
        rintro e w2 ⟨pc, rfl, hc, hb⟩
        rw [zn_nat] at hc
        have HC2 := Lib.hid (Complete_any pc (ownOf l) w2 hc)
        have HCC := Lib.hid hc
        have HB := Lib.hid hb
        by_cases hr2 : room (ownOf l) = 32768
        · have hR2 := HR1.out
          rw [if_neg (by simpa using hr2)] at hR2
          have HR2 := Lib.hid hR2
          simp only [hr2, decide_true] at HC2
          clear hR2 hc hb hro hr2
          go_wp2_with (first
            | (go_at_call 90; (refine HC2.out.mono ?_); rintro e w3 ⟨rfl, hb3⟩; have HB3 := Lib.hid hb3; clear hb3)
            | (go_at_call 66; (with_reducible refine (must_yes _ _).mono ?_); rintro e w7 ⟨rfl, rfl⟩))
          go_ret
          obtain ⟨h4, m4⟩ := HX.out.rs.grow HB.out
          obtain ⟨h5, m5⟩ := h4.grow HB3.out
          have hR2 := HR2.out
          subst hR2
          exact ⟨pc, rfl, HCC.out.below HB3.out, ov1, h5, HX.out.mv.trans (m4.trans m5)⟩
        · have hR2 := HR1.out
          rw [if_pos (by simpa using hr2)] at hR2
          have HR2 := Lib.hid hR2
          simp only [hr2, decide_false] at HC2
          clear hR2 hc hb hro hr2
          go_wp2_with (first
            | (go_at_call 90; (refine HC2.out.mono ?_); rintro e w3 ⟨rfl, hb3⟩; have HB3 := Lib.hid hb3; clear hb3)
            | (go_at_call 66; (refine (must_no 10 _).mono ?_); rintro e w7 ⟨rfl, rfl⟩))
          obtain ⟨h4, m4⟩ := HX.out.rs.grow HB.out
          obtain ⟨h5, m5⟩ := h4.grow HB3.out
          exact ⟨rfl, OC.bad HR2.out (HX.out.mv.trans (m4.trans m5)).touch⟩
      · have hR2 := HR1.out
        rw [if_pos (by intro e; omega)] at hR2
        have HR2 := Lib.hid hR2
        refine (codeOf_no (some ⟨q, 0, none⟩) 19 19 (zn (ownOf l)) _ HI.out HZL.out HV.out (by rw [zn_nat]; omega)).mono ?_
        rintro e w2 ⟨rfl, hb⟩
        have HB := Lib.hid hb
        clear hR2 hro hb
        go_wp2
        obtain ⟨h4, m4⟩ := HX.out.rs.grow HB.out
        exact ⟨rfl, OC.bad HR2.out (HX.out.mv.trans m4).touch⟩
end
end Go.Proofs.YtnnkegpnjedneaaDoor

/-
  toldCodes of inflate's reader.
-/
namespace Go.Proofs.YtnnkegpnjedneaaDoor
open Go.RowKit
set_option maxRecDepth 100000

theorem is_take {w : World} {ao : Option Addr} {zs : List Int} (h : IS w ao zs) (k : Nat) : IS w ao (zs.take k) := by
  rcases h with rfl | ⟨b, off, rfl, hc⟩
  · exact .inl (by simp)
  · refine .inr ⟨b, off, rfl, fun j hj => ?_⟩
    rw [List.length_take] at hj
    rw [hc j (by omega)]
    simp only [List.getD_eq_getElem?_getD]
    rw [List.getElem?_take_of_lt (by omega)]
theorem is_drop {w : World} {b off : Nat} {zs : List Int} (h : IS w (some ⟨b, off, none⟩) zs) (k : Nat) : IS w (some ⟨b, off + k, none⟩) (zs.drop k) := by
  rcases h with rfl | ⟨b', off', he, hc⟩
  · exact .inl (by simp)
  · simp only [Option.some.injEq, Addr.mk.injEq, and_true] at he
    obtain ⟨rfl, rfl⟩ := he
    refine .inr ⟨b, off + k, rfl, fun j hj => ?_⟩
    rw [List.length_drop] at hj
    rw [Nat.add_assoc, hc (k + j) (by omega)]
    simp only [List.getD_eq_getElem?_getD, List.getElem?_drop]
theorem zn_take (l : List Nat) (k : Nat) : (zn l).take k = zn (l.take k) := by simp [zn]
theorem zn_drop (l : List Nat) (k : Nat) : (zn l).drop k = zn (l.drop k) := by simp [zn]
theorem zn_vd {l : List Nat} (h : ∀ x ∈ l, x ≤ 15) (hl : l.length ≤ 320) : Vd (zn l) := ⟨by rw [zn_len]; exact hl, fun z hz => by
  unfold zn at hz
  obtain ⟨x, hx, rfl⟩ := List.mem_map.1 hz
  have := h x hx
  omega⟩

theorem isFull_zn (p : Nat) (ao : Option Addr) (c n : Nat) (ls : List Nat) (w : World) (h : CodeAt w p ls) (hi : IS w ao (zn ls)) (hl : (zn ls).length = n) (hv : Vd (zn ls)) :
    Calls Tryd.prog 83 #[.pointer (some ⟨p, 0, none⟩), .slice ao n c] w fun e w' => e = .returned (.bool (whole ls)) ∧ Below w.heap.size w w' := by
  have := isFull_any p ao c n (zn ls) w (by rw [zn_nat]; exact h) hi hl hv
  rw [zn_nat] at this
  exact this

section
variable {B K p pb : Nat} {g : Option Nat} {bs : List Nat} {lim : Nat} {w : World} {ov : Value} {s : Sta}
/-- What the reading of a block's codes leaves. -/
def CD (B K p pb : Nat) (g : Option Nat) (bs : List Nat) (lim : Nat) (w : World) (ov : Value) (r : Res (List Nat × List Nat)) (e : Ending) (w' : World) : Prop :=
  match r with
  | .bad er => RBad p pb w ov er e w'
  | .ok c s => ∃ p1 p2, e = .returned (.agg #[.pointer (some ⟨p1, 0, none⟩), .pointer (some ⟨p2, 0, none⟩)]) ∧ CodeAt w' p1 c.1 ∧ CodeAt w' p2 c.2 ∧ ∃ ov', RS B K p pb g bs lim w' ov' s ∧ Mv p pb w ov w' ov'
theorem CD.bad {R : Res (List Nat × List Nat)} {er : Nat} {w' : World} (e : R = .bad er) (ht : Touch (FT p pb ov) w w') : CD B K p pb g bs lim w ov R (pan er) w' := by
  subst e; exact ⟨rfl, ht⟩

/-- While the codes are told. -/
structure Tx (B K p pb : Nat) (g : Option Nat) (bs : List Nat) (lim : Nat) (w : World) (ov : Value) (r : Nat) (wr : World) (ov' : Value) (s' : Sta) : Prop where
  rs : RS B K p pb g bs lim wr ov' s'
  mv : Mv p pb w ov wr ov'
  tab : Tab wr
  res : Blk wr r 124 #[.pointer none, .pointer none]
  hB : 0 < B
  hK : K ≤ wr.heap.size
theorem Tx.on {r : Nat} {wr w2 : World} {ov' ov2 : Value} {s' s2 : Sta} (h : Tx B K p pb g bs lim w ov r wr ov' s') (k : RS B K p pb g bs lim w2 ov2 s2) (m : Mv p pb wr ov' w2 ov2) : Tx B K p pb g bs lim w ov r w2 ov2 s2 :=
  ⟨k, h.mv.trans m, h.tab.touch m.touch fun h0 => by have := h.rs.base 0 h0; have := h.hB; omega, h.res.safe m.touch h.rs.safe (by decide), h.hB, Nat.le_trans h.hK m.touch.size⟩
theorem Tx.grow {r : Nat} {wr w2 : World} {ov' : Value} {s' : Sta} (h : Tx B K p pb g bs lim w ov r wr ov' s') (hb : Below wr.heap.size wr w2) : Tx B K p pb g bs lim w ov r w2 ov' s' := by
  obtain ⟨k, m⟩ := h.rs.grow hb
  exact h.on k m

set_option maxHeartbeats 6400000 in
theorem toldCodes_any (hK : K ≤ w.heap.size) (hB : 0 < B) (hT : Tab w) (h : RS B K p pb g bs lim w ov s) :
    Calls Tryd.prog 70 #[.pointer (some ⟨p, 0, none⟩)] w (CD B K p pb g bs lim w ov (codes bs s)) := by
  obtain ⟨R, hR⟩ : ∃ R, R = codes bs s := ⟨_, rfl⟩
  rw [← hR]
  unfold codes at hR
  have HR := Lib.hid hR
  clear hR
  obtain ⟨r, hr⟩ : ∃ r, r = w.heap.size := ⟨_, rfl⟩
  have HRW := Lib.hid hr
  have HKW := Lib.hid hK
  have HX0 : Hid (Tx B K p pb g bs lim w ov r (w.alloc (.cells #[.pointer none, .pointer none] 124)) ov s) := Lib.hid (by
    have hA : Below w.heap.size w (w.alloc (.cells #[.pointer none, .pointer none] 124)) := (Below.refl _ w).alloc (Nat.le_refl _) _
    obtain ⟨h1, m1⟩ := h.grow hA
    exact ⟨h1, m1, hT.below hA, by rw [hr]; exact Blk.made _ _ _, hB, Nat.le_trans hK hA.size⟩)
  obtain ⟨W, hW⟩ : ∃ W, W = w.alloc (.cells #[.pointer none, .pointer none] 124) := ⟨_, rfl⟩
  clear h hT hB hK
  go_enter Tryd.func70, Tryd.ntmps70
  go_wp2_with fail
  rw [← hW] at HX0 ⊢
  rw [← hr]
  clear hr hW
  refine (number_any HX0.out.rs 5 (by omega)).mono ?_
  rintro e w1 h1
  have hR := HR.out
  cases hr1 : rdN bs 5 s with
  | bad er =>
    rw [hr1] at h1 hR
    obtain ⟨rfl, ht⟩ := h1
    have HR1 := Lib.hid hR
    clear hr1 hR
    go_wp2
    exact ⟨rfl, CD.bad HR1.out (HX0.out.mv.bad ht)⟩
  | ok l s1 =>
  rw [hr1] at h1
  rw [hr1, Res.bind_ok] at hR
  obtain ⟨rfl, ov1, h1, m1⟩ := h1
  have hl32 : l < 32 := rdN_lt hr1
  have HX1 := Lib.hid (HX0.out.on h1 m1)
  have HR1 := Lib.hid hR
  clear hr1 hR h1 m1 HX0 HR
  go_wp2_with fail
  refine (number_any HX1.out.rs 5 (by omega)).mono ?_
  rintro e w2 h2
  have hR := HR1.out
  cases hr2 : rdN bs 5 s1 with
  | bad er =>
    rw [hr2] at h2 hR
    obtain ⟨rfl, ht⟩ := h2
    have HR2 := Lib.hid hR
    clear hr2 hR
    go_wp2
    exact ⟨rfl, CD.bad HR2.out (HX1.out.mv.bad ht)⟩
  | ok d s2 =>
  rw [hr2] at h2
  rw [hr2, Res.bind_ok] at hR
  obtain ⟨rfl, ov2, h2, m2⟩ := h2
  have hd32 : d < 32 := rdN_lt hr2
  have HX2 := Lib.hid (HX1.out.on h2 m2)
  have HR2 := Lib.hid hR
  clear hr2 hR h2 m2 HX1 HR1
  go_wp2_with fail
  refine (number_any HX2.out.rs 4 (by omega)).mono ?_
  rintro e w3 h3
  have hR := HR2.out
  cases hr3 : rdN bs 4 s2 with
  | bad er =>
    rw [hr3] at h3 hR
    obtain ⟨rfl, ht⟩ := h3
    have HR3 := Lib.hid hR
    clear hr3 hR
    go_wp2
    exact ⟨rfl, CD.bad HR3.out (HX2.out.mv.bad ht)⟩
  | ok c s3 =>
  rw [hr3] at h3
  rw [hr3, Res.bind_ok] at hR
  obtain ⟨rfl, ov3, h3, m3⟩ := h3
  have hc16 : c < 16 := rdN_lt hr3
  have HX3 := Lib.hid (HX2.out.on h3 m3)
  have HR3 := Lib.hid hR
  clear hr3 hR h3 m3 HX2 HR2
  by_cases hbad : 29 < l ∨ 29 < d
  · have hR := HR3.out
    rw [if_pos hbad] at hR
    have HR4 := Lib.hid hR
    clear hR HR3
    by_cases hl : 29 < l
    · have e1 : decide ((l : Int) ≤ 29) = false := by simp; omega
      clear hbad hl
      go_wp2_with (go_at_call 66; (refine (must_no 10 _).mono ?_); rintro e w7 ⟨rfl, rfl⟩)
      exact ⟨rfl, CD.bad HR4.out HX3.out.mv.touch⟩
    · have e1 : decide ((l : Int) ≤ 29) = true := by simp; omega
      have e2 : decide ((d : Int) ≤ 29) = false := by simp; omega
      clear hbad hl
      go_wp2_with (go_at_call 66; (refine (must_no 10 _).mono ?_); rintro e w7 ⟨rfl, rfl⟩)
      exact ⟨rfl, CD.bad HR4.out HX3.out.mv.touch⟩
  have hR := HR3.out
  rw [if_neg hbad] at hR
  have e1 : decide ((l : Int) ≤ 29) = true := by simp; omega
  have e2 : decide ((d : Int) ≤ 29) = true := by simp; omega
  have hl29 : l ≤ 29 := by omega
  have hd29 : d ≤ 29 := by omega
  obtain ⟨n4, hn4⟩ : ∃ n4, n4 = 4 + c := ⟨_, rfl⟩
  have e4 : (4 : Int) + (c : Int) = (n4 : Nat) := by omega
  have hn19 : n4 ≤ 19 := by omega
  rw [← hn4] at hR
  have HR4 := Lib.hid hR
  clear hR hbad hn4 HR3
  go_wp2_with (go_at_call 66; (with_reducible refine (must_yes _ _).mono ?_); rintro e w7 ⟨rfl, rfl⟩)
  clear e1 e2 e4
  refine (ownCode_any HX3.out.hK HX3.out.hB HX3.out.tab HX3.out.rs hn19).mono ?_
  rintro e w4 h4
  have hR := HR4.out
  have hown : ∀ {β : Type} (k : List Nat → Sta → Res β), ((rdO bs n4 [] s3).bind fun o s4 => if room (ownOf o) ≠ 32768 then .bad 10 else k o s4) = (ownR bs n4 s3).bind k := fun k => by
    unfold ownR
    cases rdO bs n4 [] s3 with
    | bad e => rfl
    | ok o s4 => simp only [Res.bind_ok]; split <;> rfl
  rw [hown] at hR
  clear hown
  cases hr4 : ownR bs n4 s3 with
  | bad er =>
    rw [hr4] at h4 hR
    obtain ⟨rfl, ht⟩ := h4
    have HR5 := Lib.hid hR
    clear hr4 hR
    go_wp2
    exact ⟨rfl, CD.bad HR5.out (HX3.out.mv.bad ht)⟩
  | ok o s4 =>
  rw [hr4] at h4
  rw [hr4, Res.bind_ok] at hR
  obtain ⟨pc, rfl, hc4, ov4, h4, m4⟩ := h4
  have HX4 := Lib.hid (HX3.out.on h4 m4)
  have HC4 := Lib.hid hc4
  obtain ⟨A, hA⟩ : ∃ A, A = 257 + l := ⟨_, rfl⟩
  obtain ⟨D, hD⟩ : ∃ D, D = 1 + d := ⟨_, rfl⟩
  obtain ⟨N, hN⟩ : ∃ N, N = A + D := ⟨_, rfl⟩
  have hN2 : 258 + l + d = N := by omega
  have e5 : (257 : Int) + (l : Int) = (A : Nat) := by omega
  have e6 : (A : Int) + 1 + (d : Int) = (N : Nat) := by omega
  have hA1 : 257 ≤ A := by omega
  have hA2 : A ≤ 286 := by omega
  have hD1 : 1 ≤ D := by omega
  have hD2 : D ≤ 30 := by omega
  rw [hN2, ← hA] at hR
  have HR5 := Lib.hid hR
  have HN := Lib.hid hN
  have hN3 : N ≤ 320 := by omega
  have hN4 : 1 ≤ N := by omega
  have HAD := Lib.hid (And.intro hA hD)
  clear hr4 hR h4 m4 hc4 HX3 HR4 hN hN2 hA hD
  go_wp2_with fail
  refine (lengths_any HX4.out.hK HX4.out.rs HC4.out (ownOf_len o) hN4 hN3).mono ?_
  rintro e w5 h5
  have hR := HR5.out
  cases hr5 : lens bs (ownOf o) N s4 with
  | bad er =>
    rw [hr5] at h5 hR
    obtain ⟨rfl, ht⟩ := h5
    have HR6 := Lib.hid hR
    clear hr5 hR
    go_wp2
    exact ⟨rfl, CD.bad HR6.out (HX4.out.mv.bad ht)⟩
  | ok row s5 =>
  rw [hr5] at h5
  rw [hr5, Res.bind_ok] at hR
  obtain ⟨a, c7, rfl, ⟨i5, k5⟩, ov5, h5, m5⟩ := h5
  obtain ⟨hlen, hsm⟩ := lens_is (ownOf_len o) HX4.out.rs.in_ hr5
  rw [hlen] at k5 ⊢
  have HX5 := Lib.hid (HX4.out.on h5 m5)
  obtain ⟨b, off, rfl, q0⟩ := i5.at (k := 256) (by rw [zn_len]; omega)
  rw [zn_at] at q0
  obtain ⟨x, hx⟩ : ∃ x, x = row.getD 256 0 := ⟨_, rfl⟩
  rw [← hx] at q0 hR
  have HROW := Lib.hid (And.intro hlen hsm)
  have HI5 := Lib.hid i5
  have HR6 := Lib.hid hR
  have hND : N - A = D := by have := HN.out; omega
  have hAN : A < N := by have := HN.out; omega
  have hAN' : (A : Int) ≤ N := by omega
  have hc7 : (N : Int) ≤ c7 := by omega
  have hAc : (A : Int) ≤ c7 := by omega
  have hne : ¬ (c7 = A) := by omega
  have hx16 : x ≤ 15 := by
    rw [hx, List.getD_eq_getElem?_getD, List.getElem?_eq_getElem (by omega)]
    exact hsm _ (List.getElem_mem _)
  have HQ0 := Lib.hid q0
  clear hr5 hR h5 m5 hlen hsm i5 HX4 HR5 HC4 hx q0
  go_wp2_with fail
  go_quiet (fail)
  obtain ⟨h6, m6⟩ := HX5.out.rs.drewN nq
  have HX6 := Lib.hid (HX5.out.on h6 m6)
  have HI6 : Hid (IS (w5.drewN nq) (some ⟨b, off, none⟩) (zn row)) := Lib.hid (HI5.out.drewN nq)
  have q6 : (w5.drewN nq).cell? ⟨b, off + 256, none⟩ = some (.int .i64 (x : Nat)) := HQ0.out
  obtain ⟨W6, hW6⟩ : ∃ W6, W6 = w5.drewN nq := ⟨_, rfl⟩
  rw [← hW6] at HX6 HI6 q6 ⊢
  clear h6 m6 HX5 HI5 HQ0 hW6 hND hAN hAN' hc7 hAc hne e5 e6
  have e7 : (256 : Int) < A := by omega
  by_cases hx0 : x = 0
  · have hR := HR6.out
    rw [if_pos hx0] at hR
    have HR7 := Lib.hid hR
    have d1 : decide ((0 : Int) < x) = false := by simp; omega
    have d2 : decide (0 < x) = false := by simp; omega
    clear hR hx0
    go_wp2_with (go_at_call 66; (refine (must_no 10 _).mono ?_); rintro e w7 ⟨rfl, rfl⟩)
    exact ⟨rfl, CD.bad HR7.out HX6.out.mv.touch⟩
  have hR := HR6.out
  rw [if_neg hx0] at hR
  have HR7 := Lib.hid hR
  have d1 : decide ((0 : Int) < x) = true := by simp; omega
  have d2 : decide (0 < x) = true := by simp; omega
  obtain ⟨fl, hfl⟩ : ∃ fl, fl = row.take A := ⟨_, rfl⟩
  obtain ⟨ol, hol⟩ : ∃ ol, ol = row.drop A := ⟨_, rfl⟩
  have HFO := Lib.hid (And.intro hfl hol)
  have HI1 : Hid (IS W6 (some ⟨b, off, none⟩) (zn fl)) := Lib.hid (by rw [hfl, ← zn_take]; exact is_take HI6.out A)
  have HI2 : Hid (IS W6 (some ⟨b, off + A, none⟩) (zn ol)) := Lib.hid (by rw [hol, ← zn_drop]; exact is_drop HI6.out A)
  have HL1 : Hid ((zn fl).length = A) := Lib.hid (by rw [zn_len, hfl, List.length_take, HROW.out.1]; have := HN.out; omega)
  have HL2 : Hid ((zn ol).length = D) := Lib.hid (by rw [zn_len, hol, List.length_drop, HROW.out.1]; have := HN.out; omega)
  have HV1 : Hid (Vd (zn fl)) := Lib.hid (zn_vd (fun y hy => HROW.out.2 y (by rw [hfl] at hy; exact List.mem_of_mem_take hy)) (by have := HL1.out; rw [zn_len] at this; omega))
  have HV2 : Hid (Vd (zn ol)) := Lib.hid (zn_vd (fun y hy => HROW.out.2 y (by rw [hol] at hy; exact List.mem_of_mem_drop hy)) (by have := HL2.out; rw [zn_len] at this; omega))
  have HFIT : Hid (fits row A = (decide (room fl ≤ 32768 ∧ room ol ≤ 32768) && whole fl && (whole ol || decide (many ol = 0)))) := Lib.hid (by rw [hfl, hol]; rfl)
  clear hR hx0 hfl hol HI6 HR6
  go_wp2_with (go_at_call 66; (with_reducible refine (must_yes _ _).mono ?_); rintro e w7 ⟨rfl, rfl⟩)
  clear d1 d2 q6 e7
  by_cases c1' : 32768 < room fl
  · have c1 : ¬ room fl ≤ 32768 := by omega
    have HR8 : Hid (R = .bad 10) := Lib.hid (by have := HR7.out; rw [HFIT.out] at this; rw [this, if_neg (by simp [c1])])
    refine (codeOf_no (some ⟨b, off, none⟩) c7 A (zn fl) _ HI1.out HL1.out HV1.out (by rw [zn_nat]; omega)).mono ?_
    rintro e w7 ⟨rfl, hb⟩
    have HX7 := Lib.hid (HX6.out.grow hb)
    clear c1 c1' hb
    go_wp2
    exact ⟨rfl, CD.bad HR8.out HX7.out.mv.touch⟩
  have c1 : room fl ≤ 32768 := by omega
  refine (codeOf_yes (some ⟨b, off, none⟩) c7 A (zn fl) _ HI1.out HL1.out HV1.out (by rw [zn_nat]; exact c1)).mono ?_
  rintro e w7 ⟨p1, rfl, hc1, hb⟩
  rw [zn_nat] at hc1
  have HX7 := Lib.hid (HX6.out.grow hb)
  have HC1 := Lib.hid hc1
  have HJ1 := Lib.hid (HI1.out.below hb)
  have HJ2 := Lib.hid (HI2.out.below hb)
  clear hc1 hb HI1 HI2 HX6
  go_wp2_with fail
  by_cases c2' : 32768 < room ol
  · have c2 : ¬ room ol ≤ 32768 := by omega
    have HR8 : Hid (R = .bad 10) := Lib.hid (by have := HR7.out; rw [HFIT.out] at this; rw [this, if_neg (by simp [c2])])
    refine (codeOf_no (some ⟨b, off + A, none⟩) (c7 - A) D (zn ol) _ HJ2.out HL2.out HV2.out (by rw [zn_nat]; omega)).mono ?_
    rintro e w8 ⟨rfl, hb⟩
    have HX8 := Lib.hid (HX7.out.grow hb)
    clear c1 c2 c1' c2' hb
    go_wp2
    exact ⟨rfl, CD.bad HR8.out HX8.out.mv.touch⟩
  have c2 : room ol ≤ 32768 := by omega
  refine (codeOf_yes (some ⟨b, off + A, none⟩) (c7 - A) D (zn ol) _ HJ2.out HL2.out HV2.out (by rw [zn_nat]; exact c2)).mono ?_
  rintro e w8 ⟨p2, rfl, hc2, hb⟩
  rw [zn_nat] at hc2
  have hA8 : Below w8.heap.size w8 (w8.alloc (.cells #[.pointer (some ⟨p1, 0, none⟩), .pointer (some ⟨p2, 0, none⟩)] 124)) := (Below.refl _ w8).alloc (Nat.le_refl _) _
  have HX8 := Lib.hid ((HX7.out.grow hb).grow hA8)
  have HD1 := Lib.hid ((HC1.out.below hb).below hA8)
  have HD2 := Lib.hid (hc2.below hA8)
  have HK1 := Lib.hid ((HJ1.out.below hb).below hA8)
  have HK2 := Lib.hid ((HJ2.out.below hb).below hA8)
  have HQ : Hid (Blk (w8.alloc (.cells #[.pointer (some ⟨p1, 0, none⟩), .pointer (some ⟨p2, 0, none⟩)] 124)) w8.heap.size 124 #[.pointer (some ⟨p1, 0, none⟩), .pointer (some ⟨p2, 0, none⟩)]) := Lib.hid (Blk.made _ _ _)
  have HCC : Hid (room fl ≤ 32768 ∧ room ol ≤ 32768) := Lib.hid ⟨c1, c2⟩
  clear hc2 hb hA8 HX7 HC1 HJ1 HJ2 c1 c2 c1' c2'
  go_wp2_with fail
  obtain ⟨q, hq⟩ : ∃ q, q = w8.heap.size := ⟨_, rfl⟩
  obtain ⟨W8, hW8⟩ : ∃ W8, W8 = w8.alloc (.cells #[.pointer (some ⟨p1, 0, none⟩), .pointer (some ⟨p2, 0, none⟩)] 124) := ⟨_, rfl⟩
  rw [← hW8, ← hq] at HQ ⊢
  rw [← hW8] at HX8 HD1 HD2 HK1 HK2
  clear hq hW8
  refine (isFull_zn p1 (some ⟨b, off, none⟩) c7 A fl _ HD1.out HK1.out HL1.out HV1.out).mono ?_
  rintro e w9 ⟨rfl, hb⟩
  have HX9 := Lib.hid (HX8.out.grow hb)
  have HE1 := Lib.hid (HD1.out.below hb)
  have HE2 := Lib.hid (HD2.out.below hb)
  have HK9 := Lib.hid (HK2.out.below hb)
  have HQ9 := Lib.hid (HQ.out.below hb)
  have q1 := (HQ.out.below hb).cell 1
  have q0 := (HQ.out.below hb).cell 0
  clear hb HX8 HD1 HD2 HK1 HK2 HQ
  have hBool : ∀ x : Bool, x = true ∨ x = false := fun x => by cases x <;> simp
  obtain ⟨y1, hy1⟩ : ∃ y1, y1 = whole fl := ⟨_, rfl⟩
  rw [← hy1]
  have HY1 := Lib.hid hy1
  clear hy1
  rcases hBool y1 with rfl | rfl
  · go_wp2_with (go_at_call 66; (with_reducible refine (must_yes _ _).mono ?_); rintro e w7 ⟨rfl, rfl⟩)
    refine (isFull_zn p2 (some ⟨b, off + A, none⟩) (c7 - A) D ol _ HE2.out HK9.out HL2.out HV2.out).mono ?_
    rintro e w10 ⟨rfl, hb⟩
    have HX10 := Lib.hid (HX9.out.grow hb)
    have HF1 := Lib.hid (HE1.out.below hb)
    have HF2 := Lib.hid (HE2.out.below hb)
    have HQ10 := Lib.hid (HQ9.out.below hb)
    have t0 := (HQ9.out.below hb).cell 0
    have t1 := (HQ9.out.below hb).cell 1
    have r0 := HX10.out.res.cell 0
    have r1 := HX10.out.res.cell 1
    have g0 := HX10.out.res.free 0
    have g1 := HX10.out.res.free 1
    clear hb HX9 HE1 HE2 HK9 q0 q1 hBool
    have FIN : Hid (R = .ok (fl, ol) s5 → CD B K p pb g bs lim w ov R (.returned (.agg #[.pointer (some ⟨p1, 0, none⟩), .pointer (some ⟨p2, 0, none⟩)])) ((w10.setCell ⟨r, 0, none⟩ (.pointer (some ⟨p1, 0, none⟩))).setCell ⟨r, 1, none⟩ (.pointer (some ⟨p2, 0, none⟩)))) := Lib.hid fun hRe => by
      have hts : Touch (fun k => k = r) w10 ((w10.setCell ⟨r, 0, none⟩ (.pointer (some ⟨p1, 0, none⟩))).setCell ⟨r, 1, none⟩ (.pointer (some ⟨p2, 0, none⟩))) := ((Touch.refl (fun k => k = r) w10).setCell ⟨r, 0, none⟩ _ (.inl rfl)).setCell ⟨r, 1, none⟩ _ (.inl rfl)
      have hrw : w.heap.size ≤ r := Nat.le_of_eq HRW.out.symm
      obtain ⟨f1, f2⟩ := item_end HX10.out.rs HX10.out.mv HX10.out.res (.inr ⟨.inr rfl, Nat.le_trans HKW.out hrw⟩) hrw hts
      have a1 := HF1.out.in_.aside HX10.out.res hts ⟨by decide, by decide, fun h => absurd h (by decide)⟩
      have a2 := HF2.out.in_.aside HX10.out.res hts ⟨by decide, by decide, fun h => absurd h (by decide)⟩
      subst hRe
      exact ⟨p1, p2, rfl, a1.at_, a2.at_, ov5, f1, f2⟩
    obtain ⟨y2, hy2⟩ : ∃ y2, y2 = whole ol := ⟨_, rfl⟩
    rw [← hy2]
    have HY2 := Lib.hid hy2
    clear hy2
    have hBool : ∀ x : Bool, x = true ∨ x = false := fun x => by cases x <;> simp
    rcases hBool y2 with rfl | rfl
    · have HRE : Hid (R = .ok (fl, ol) s5) := Lib.hid (by
        have := HR7.out
        rw [HFIT.out, ← HY1.out, ← HY2.out, ← HFO.out.1, ← HFO.out.2] at this
        rw [this, if_pos (by simp [HCC.out.1, HCC.out.2])])
      clear hBool
      go_wp2_with (go_at_call 66; (with_reducible refine (must_yes _ _).mono ?_); rintro e w7 ⟨rfl, rfl⟩)
      refine bodyPost_ret (v := .agg #[.pointer (some ⟨p1, 0, none⟩), .pointer (some ⟨p2, 0, none⟩)]) (by simp [results, Tryd.results70, go_sem, r0, r1]) rfl ?_
      exact FIN.out HRE.out
    · have hS := Symbols_any p2 ol w10 HF2.out
      obtain ⟨m, hm⟩ : ∃ m, m = many ol := ⟨_, rfl⟩
      rw [← hm] at hS
      have HS := Lib.hid hS
      have HM := Lib.hid hm
      clear hm hS hBool
      by_cases hm0 : m = 0
      · have d1 : ((m : Int) == 0) = true := by simp [hm0]
        have HRE : Hid (R = .ok (fl, ol) s5) := Lib.hid (by
          have := HR7.out
          rw [HFIT.out, ← HY1.out, ← HY2.out, ← HFO.out.1, ← HFO.out.2, ← HM.out] at this
          rw [this, if_pos (by simp [HCC.out.1, HCC.out.2, hm0])])
        clear hm0
        go_wp2_with (first
          | (go_at_call 84; (refine HS.out.mono ?_); rintro e w7 ⟨rfl, rfl⟩)
          | (go_at_call 66; (with_reducible refine (must_yes _ _).mono ?_); rintro e w7 ⟨rfl, rfl⟩))
        refine bodyPost_ret (v := .agg #[.pointer (some ⟨p1, 0, none⟩), .pointer (some ⟨p2, 0, none⟩)]) (by simp [results, Tryd.results70, go_sem, r0, r1]) rfl ?_
        exact FIN.out HRE.out
      · have d1 : ((m : Int) == 0) = false := by simp; omega
        have HRE : Hid (R = .bad 10) := Lib.hid (by
          have := HR7.out
          rw [HFIT.out, ← HY2.out, ← HM.out] at this
          rw [this, if_neg (by simp [hm0])])
        clear hm0
        go_wp2_with (first
          | (go_at_call 84; (refine HS.out.mono ?_); rintro e w7 ⟨rfl, rfl⟩)
          | (go_at_call 66; (refine (must_no 10 _).mono ?_); rintro e w7 ⟨rfl, rfl⟩))
        exact ⟨rfl, CD.bad HRE.out HX10.out.mv.touch⟩
  · have HRE : Hid (R = .bad 10) := Lib.hid (by
      have := HR7.out
      rw [HFIT.out, ← HY1.out] at this
      rw [this, if_neg (by simp)])
    clear hBool
    go_wp2_with (go_at_call 66; (refine (must_no 10 _).mono ?_); rintro e w7 ⟨rfl, rfl⟩)
    exact ⟨rfl, CD.bad HRE.out HX9.out.mv.touch⟩
end
end Go.Proofs.YtnnkegpnjedneaaDoor

