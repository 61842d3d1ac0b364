import Derived.Test.YtnnkegpnjedneaaDoorX14
import Derived.Deep.CutRange
import Derived.Test.YtnnkegpnjedneaaDoorX9
/-
  told of the reference's run.
-/
namespace Go.Proofs.YtnnkegpnjedneaaDoor
open Go.RowKit
set_option maxRecDepth 100000

section
variable {B p : Nat} {rv : Value} {bs : List Nat} {lim nb er : Nat} {w : World} {ov : Value} {s : Sta}

/-- While the lengths of the items' code are told. -/
structure Ol (B p : Nat) (rv : Value) (bs : List Nat) (lim nb : Nat) (w : World) (ov : Value) (q : Nat) (l : List Nat) (er : Nat) (wr : World) (ov' : Value) (s' : Sta) : Prop where
  qs : QS B p rv bs lim nb er wr ov' s'
  m : Qv p w ov wr ov'
  order : Blk wr q 3 (va 19 fun j => .int .i64 (ord.getD j 0 : Nat))
  row : Blk wr (q + 1) 3 (ia 19 fun j => (ownOf l).getD j 0)
  lo : w.heap.size ≤ q
  ne : ¬ QT p ov' q ∧ ¬ QT p ov' (q + 1)
  rne : ∀ k, rv.ownBlock = some k → k < q

theorem ol_number {q : Nat} {l : List Nat} {wr w2 : World} {ov1 ov2 : Value} {s1 s2 : Sta} {er2 v i o : Nat} (h : Ol B p rv bs lim nb w ov q l er wr ov1 s1) (h2 : QS B p rv bs lim nb er2 w2 ov2 s2) (m2 : Qv p wr.drew ov1 w2 ov2) (hi : i = l.length) (hi9 : i < 19) (ho : o = ord.getD i 0) :
    w2.cell? ⟨q, i, none⟩ = some (.int .i64 (o : Nat)) ∧ w2.frozen? ⟨q + 1, o, none⟩ = false ∧ w2.cell? ⟨q + 1, o, none⟩ = some (.int .i64 ((ownOf l).getD o 0 : Nat)) ∧
      Hid (Ol B p rv bs lim nb w ov q (l ++ [v]) er2 (w2.setCell ⟨q + 1, o, none⟩ (.int .i64 (v : Nat))) ov2 s2) := by
  have ho19 : o < 19 := by rw [ho]; exact ord_lt i hi9
  have hD := h.qs.drew
  have hord : Blk w2 q 3 (va 19 fun j => .int .i64 (ord.getD j 0 : Nat)) := (show Blk wr.drew q 3 _ from h.order).touch m2.touch h.ne.1
  have hrow : Blk w2 (q + 1) 3 (ia 19 fun j => (ownOf l).getD j 0) := (show Blk wr.drew (q + 1) 3 _ from h.row).touch m2.touch h.ne.2
  refine ⟨(hord.cell i).trans (by rw [va_at 19 _ i hi9, ho]), hrow.free o, (hrow.cell o).trans (va_at 19 _ o ho19), Lib.hid ?_⟩
  have hset : Touch (fun k => k = q + 1) w2 (w2.setCell ⟨q + 1, o, none⟩ (.int .i64 (v : Nat))) := (Touch.refl _ w2).setCell _ _ (.inl rfl)
  have hne : ∀ k, QT p ov2 k → k ≠ q ∧ k ≠ q + 1 := by
    intro k hk
    rcases hk with hk | hk
    · exact ⟨fun e => h.ne.1 (.inl (e.symm.trans hk)), fun e => h.ne.2 (.inl (e.symm.trans hk))⟩
    · rcases m2.row k hk with h1 | h1
      · exact ⟨fun e => h.ne.1 (.inr (by rw [← e]; exact h1)), fun e => h.ne.2 (.inr (by rw [← e]; exact h1))⟩
      · have := h.row.lt
        have : wr.drew.heap.size = wr.heap.size := rfl
        omega
  refine ⟨h2.aside hset (fun e => (hne p (.inl rfl)).2 e) (fun k hk e => (hne k (.inr hk)).2 e) (fun k hk e => by have := h.rne k hk; omega), (h.m.trans (hD.2.trans m2)).aside hset (fun k hk => by have := h.lo; omega), ?_, ?_, h.lo, ⟨fun e => (hne _ e).1 rfl, fun e => (hne _ e).2 rfl⟩, h.rne⟩
  · exact hord.touch hset (by omega)
  · have := hrow.setCell o (.int .i64 (v : Nat))
    have h5 := ownOf_set l v (by omega)
    rw [← hi, ← ho] at h5
    rwa [h5] at this

/-- While the lengths of the codes are told by items. -/
structure Tg (B p : Nat) (rv : Value) (bs : List Nat) (lim nb : Nat) (w : World) (ov : Value) (w6 : World) (ov6 : Value) (pc : Nat) (own : List Nat) (n0 : Nat) (k5 : List Nat → Sta → Res Unit) (R : Res Unit)
    (row : List Nat) (items : List (Int × Int)) (v9 : Value) (aa : Option Addr) (ac : Nat) (wr : World) (ov' : Value) (s' : Sta) : Prop where
  qs : QS B p rv bs lim nb 0 wr ov' s'
  m : Qv p w ov wr ov'
  m6 : Qv p w6 ov6 wr ov'
  ww : w.heap.size ≤ w6.heap.size
  cod : Cod w6 p ov6 pc own
  ok : Ok own ∧ own.length = 19
  it : wr.ownsRow w6.heap.size 112 2 v9 items.length (Z.icl items)
  al : ∀ w2, Touch (QT p ov') wr w2 → IS w2 aa (zn row)
  cap : row.length ≤ ac
  un : Z.un items [] = some (zn row)
  few : items.length ≤ row.length
  top : row.length ≤ n0
  sm : ∀ x ∈ row, x ≤ 15
  r : R = lk bs own n0 k5 row s'
inductive Tq (B p : Nat) (rv : Value) (bs : List Nat) (lim nb : Nat) (w : World) (ov : Value) (w6 : World) (ov6 cv : Value) (own : List Nat) (n0 : Nat) (k5 : List Nat → Sta → Res Unit) (R : Res Unit) (gm : Nat) (v9 v10 : Value) (wr : World) : Prop where
  | go (pc : Nat) (row : List Nat) (items : List (Int × Int)) (io aa : Option Addr) (ic ac : Nat) (ov' : Value) (s' : Sta) (h9 : v9 = .slice io items.length ic) (h10 : v10 = .slice aa row.length ac) (hc : cv = .pointer (some ⟨pc, 0, none⟩)) (g : n0 - row.length + 1 ≤ gm)
    (h : Tg B p rv bs lim nb w ov w6 ov6 pc own n0 k5 R row items (.slice io items.length ic) aa ac wr ov' s')
  | bad (er : Nat) (ov' : Value) (s' : Sta) (q : QS B p rv bs lim nb er wr ov' s') (m : Qv p w ov wr ov') (r : R = .bad er) (h : er ≠ 0)
/-- What one item more does. -/
theorem next_cases {own : List Nat} {n0 y v : Nat} {k5 : List Nat → Sta → Res Unit} {R : Res Unit} {row : List Nat} {items : List (Int × Int)} {s' : Sta} (hy : y ≤ 18) (h0 : y < 16 → v = 0) (hv : v < 2 ^ xb y) (hrow : row.length ≤ n0) (hn0 : n0 ≤ 316) (h15 : ∀ x ∈ row, x ≤ 15)
    (hu : Z.un items [] = some (zn row)) (hr : R = nextL bs own n0 k5 row y v s') :
    (Z.un (items ++ [((y : Int), (v : Int))]) [] = none ∧ R = .bad 10) ∨
    ∃ row', Z.un (items ++ [((y : Int), (v : Int))]) [] = some (zn row') ∧ row.length < row'.length ∧ row'.length ≤ 320 ∧ (∀ x ∈ row', x ≤ 15) ∧ ((n0 < row'.length ∧ R = .bad 10) ∨ (row'.length ≤ n0 ∧ R = lk bs own n0 k5 row' s')) := by
  have hu2 : Z.un (items ++ [((y : Int), (v : Int))]) [] = Z.un [((y : Int), (v : Int))] (zn row) := by rw [un_app, hu]; rfl
  rw [hu2, un_next hy h0 hv (by omega)]
  unfold nextL at hr
  rw [told_eq hy h0] at hr ⊢
  by_cases hn : y = 16 ∧ row = []
  · rw [if_pos hn] at hr ⊢
    exact .inl ⟨rfl, hr⟩
  · rw [if_neg hn] at hr ⊢
    simp only at hr ⊢
    have hp := told1_pos y v row
    by_cases hbig : 320 < (row ++ told1 y v row).length
    · rw [if_pos hbig]
      rw [if_pos (by omega)] at hr
      exact .inl ⟨rfl, hr⟩
    · rw [if_neg hbig]
      refine .inr ⟨_, rfl, by rw [List.length_append]; omega, by omega, fun x hx => ?_, ?_⟩
      · rcases List.mem_append.1 hx with hx | hx
        · exact h15 x hx
        · exact told1_small hy h15 x hx
      · by_cases hlt : n0 < (row ++ told1 y v row).length
        · rw [if_pos hlt] at hr
          exact .inl ⟨hlt, hr⟩
        · rw [if_neg hlt] at hr
          exact .inr ⟨by omega, hr⟩
theorem at110 : AT 110 112 (.agg #[.int .i64 0, .int .i64 0]) 2 16 := ⟨by kernel_rfl, by kernel_rfl, rfl, by omega⟩
theorem Touch.toZ {S : Nat → Prop} {a b : World} (h : Touch S a b) : Z.Touch S a b := ⟨h.os, h.tape, h.output, h.size, h.block⟩

set_option maxHeartbeats 6400000 in
theorem rtold_any (h : QS B p rv bs lim nb 0 w ov s) :
    Calls Tryd.prog 47 #[.pointer (some ⟨p, 0, none⟩)] w (QTo B p rv bs lim nb w ov uv (.tuple #[]) (toldR bs lim s)) := by
  obtain ⟨R, hR⟩ : ∃ R, R = toldR bs lim s := ⟨_, rfl⟩
  rw [← hR]
  have N1 := Lib.hid (num_go h 5 (by omega) (.of hR))
  clear h hR
  go_enter Tryd.func47, Tryd.ntmps47
  go_wp2_with fail
  refine N1.out.mono ?_
  rintro e w1 ⟨l, er1, s1, ov1, rfl, hl, h1, m1, g1, _⟩
  have N2 := Lib.hid (num_go h1 5 (by omega) g1)
  have M1 := Lib.hid m1
  have hl32 : l < 32 := hl
  clear h1 m1 g1 N1 hl
  go_wp2_with fail
  refine N2.out.mono ?_
  rintro e w2 ⟨d, er2, s2, ov2, rfl, hd, h2, m2, g2, _⟩
  have N3 := Lib.hid (num_go h2 4 (by omega) g2)
  have M2 := Lib.hid (M1.out.trans m2)
  have hd32 : d < 32 := hd
  clear h2 m2 g2 N2 M1 hd
  go_wp2_with fail
  refine N3.out.mono ?_
  rintro e w3 ⟨c, er3, s3, ov3, rfl, hc, h3, m3, g3, _⟩
  have Q3 := Lib.hid h3
  have M3 := Lib.hid (M2.out.trans m3)
  have G3 := Lib.hid g3
  have hc16 : c < 16 := hc
  have c4 := h3.cells.c4
  clear h3 m3 g3 N3 M2 hc
  go_upto_region 3 with fail
  go_cut [34] from 16 (fun s34 wx => ∃ b : Bool, s34 = .bool b ∧ wx = w3 ∧ (b = true ↔ (er3 = 0 ∧ (29 < l ∨ 29 < d))))
  case first =>
    by_cases h0 : er3 = 0
    · subst h0
      by_cases h1 : 29 < l
      · have h1' : (29 : Int) < l := by omega
        go_wp2
        go_meet
        case rel => exact ⟨true, rfl, rfl, by simp; omega⟩
      · have h1' : decide ((29 : Int) < l) = false := by simp; omega
        by_cases h2 : 29 < d
        · have h2' : (29 : Int) < d := by omega
          go_wp2
          go_meet
          case rel => exact ⟨true, by simp, by trivial, by simp; omega⟩
        · have h2' : decide ((29 : Int) < d) = false := by simp; omega
          go_wp2
          go_meet
          case rel => exact ⟨false, by simp, by trivial, by simp; omega⟩
    · have dE : ((er3 : Int) == 0) = false := by simp; omega
      go_wp2
      go_meet
      case rel => exact ⟨false, rfl, rfl, by simp; omega⟩
  case rest =>
    obtain ⟨b, rfl, rfl, hb⟩ := hcut
    have HB := Lib.hid hb
    clear hb c4
    go_upto_if 34 with fail
    go_cut [] from 16 (fun wx => ∃ (er4 : Nat) (s4 : Sta), Hid (QS B p rv bs lim nb er4 wx ov3 s4) ∧ Hid (Qv p w ov wx ov3) ∧ Hid (Gd R er4 ((rdO bs (4 + c) [] s4).bind (told4 bs lim l d))) ∧ Hid (er4 = 0 → l ≤ 29 ∧ d ≤ 29))
    case first =>
      cases b
      · go_wp2
        go_meet
        case rel =>
          refine ⟨er3, s3, Q3, M3, Lib.hid ⟨fun h0 => ?_, G3.out.2⟩, Lib.hid fun h0 => ?_⟩
          · have h1 : ¬ (29 < l ∨ 29 < d) := fun e => by have := HB.out.2 ⟨h0, e⟩; cases this
            have h2 := G3.out.1 h0
            unfold told3 at h2
            rwa [if_neg h1] at h2
          · have h1 : ¬ (29 < l ∨ 29 < d) := fun e => by have := HB.out.2 ⟨h0, e⟩; cases this
            omega
      · obtain ⟨h0, h1⟩ := HB.out.1 rfl
        subst h0
        have h2 := G3.out.1 rfl
        unfold told3 at h2
        rw [if_pos h1] at h2
        have HR := Lib.hid h2
        clear h1 h2
        go_wp2_with fail
        refine (fail_yes Q3.out 10 (by omega)).mono ?_
        rintro e w4 ⟨rfl, h4, m4⟩
        have Q4 := Lib.hid h4
        have M4 := Lib.hid (M3.out.trans m4)
        clear h4 m4
        go_wp2
        go_meet
        case rel => exact ⟨10, s3, Q4, M4, Lib.hid (.bad HR.out (by omega)), Lib.hid fun h0 => by omega⟩
    case rest =>
      obtain ⟨er4, s4, Q4, M4, G4, L4⟩ := hcut
      clear HB Q3 M3 G3
      have hcN : c + 4 ≤ 19 := by omega
      obtain ⟨q, hq⟩ : ∃ q, q = wc.heap.size := ⟨_, rfl⟩
      have HTP := Lib.hid Q4.out.top
      have HRT := Lib.hid fun k (hk : rv.ownBlock = some k) => (Q4.out.row.lt k hk).2
      have HQ := Lib.hid hq
      have hqw : w.heap.size ≤ q := by rw [hq]; exact M4.out.touch.size
      clear hq
      go_wp2_with (refine wpList_make_z rfl 29 (.const (.int .i64 19)) (.const (.int .i64 19)) rfl 3 (.int .i64 0) 1 8 19 Tryd.underlying29 (by kernel_rfl) .i64 .i64 _ _ rfl rfl rfl rfl (by omega) (by omega) ?_; intro W1 hb1 ht1 hs1; rw [← ownOf_nil, alloc_size, ← HQ.out] at hb1; rw [alloc_size, ← HQ.out]; have HW1 := Lib.hid hb1; have HT1 := Lib.hid ht1; clear hb1 ht1 hs1)
      have HX0 : Hid (Ol B p rv bs lim nb w ov q [] er4 W1 ov3 s4) := Lib.hid (by
        have ht := HT1.out
        have ho : Blk W1 q 3 (va 19 fun j => .int .i64 (ord.getD j 0 : Nat)) := by
          rw [HQ.out]
          exact (Blk.made wc 3 (va 19 fun j => .int .i64 (ord.getD j 0 : Nat))).touch ht (fun h => h)
        have hb : Below wc.heap.size wc W1 := ((((Touch.refl (fun _ => False) wc).alloc _).trans ht)).below (Nat.le_refl _) fun _ h => h.elim
        obtain ⟨h2, m2⟩ := Q4.out.grow hb
        have h3 := HQ.out
        exact ⟨h2, M4.out.trans m2, ho, HW1.out, hqw, ⟨fun e => by have := HTP.out _ e; omega, fun e => by have := HTP.out _ e; omega⟩, fun k hk => by have := HRT.out k hk; omega⟩)
      have HG0 : Hid (Gd R er4 ((rdO bs (c + 4 - ([] : List Nat).length) [] s4).bind (told4 bs lim l d)) ∧ ∀ x ∈ ([] : List Nat), x < 8) := Lib.hid ⟨by rw [List.length_nil, Nat.sub_zero, Nat.add_comm c 4]; exact G4.out, fun x hx => by cases hx⟩
      have L5 : Hid (er4 ≠ 0 → R = .bad er4) := Lib.hid G4.out.2
      clear HW1 HT1 Q4 M4 G4 HTP HRT
      go_loopg [7] (c + 4) (fun gm v7 wr => ∃ (l' : List Nat) (er5 : Nat) (s5 : Sta) (ov5 : Value), l'.length ≤ c + 4 ∧ c + 4 - l'.length ≤ gm ∧ v7 = .int .i64 (l'.length : Nat) ∧ Hid (Ol B p rv bs lim nb w ov q l' er5 wr ov5 s5) ∧ Hid (Gd R er5 ((rdO bs (c + 4 - l'.length) l' s5).bind (told4 bs lim l d)) ∧ ∀ x ∈ l', x < 8) ∧ Hid (er5 = 0 → er4 = 0))
      case atStart => exact ⟨[], er4, s4, ov3, Nat.zero_le _, by simp, rfl, HX0, HG0, Lib.hid fun h => h⟩
      case round =>
        clear HX0 HG0
        obtain ⟨l', er5, s5, ov5, hl', hgm, rfl, HX, HG, HE⟩ := hrel
        obtain ⟨i, hi⟩ : ∃ i, i = l'.length := ⟨_, rfl⟩
        by_cases hlt : l'.length < c + 4
        · have hi19 : i < 19 := by omega
          obtain ⟨o, ho⟩ : ∃ o, o = ord.getD i 0 := ⟨_, rfl⟩
          have ho19 : o < 19 := by rw [ho]; exact ord_lt i hi19
          have t0 := (HX.out.order.cell i).trans (va_at 19 _ i hi19)
          rw [← ho] at t0
          have hg : Gd R er5 ((rdN bs 3 s5).bind fun v s' => (rdO bs (c + 4 - (l' ++ [v]).length) (l' ++ [v]) s').bind (told4 bs lim l d)) := by
            have := HG.out.1
            rw [show c + 4 - l'.length = (c + 4 - l'.length - 1) + 1 by omega, rdO, Res.bind_assoc] at this
            simp only [List.length_append, List.length_singleton]
            rw [show c + 4 - (l'.length + 1) = c + 4 - l'.length - 1 by omega]
            exact this
          have HN := Lib.hid (num_go HX.out.qs.drew.1 3 (by omega) hg)
          have AFT : Hid (∀ v er2 w2 ov2 s2, QS B p rv bs lim nb er2 w2 ov2 s2 → Qv p wr.drew ov5 w2 ov2 → _) := Lib.hid fun v er2 w2 ov2 s2 h2 m2 => ol_number (v := v) HX.out h2 m2 hi hi19 ho
          have H8 := Lib.hid HG.out.2
          have HI := Lib.hid hi
          have hi0 : (0 : Int) ≤ i := by omega
          have hi9 : (i : Int) < 19 := by omega
          have hin : (i : Int) < c + 4 := by omega
          have ho9 : (o : Int) < 19 := by omega
          have ho0 : (0 : Int) ≤ o := by omega
          clear hg HG HX ho
          rw [← hi] at hgm ⊢
          clear hi hlt hl'
          go_wp2
          go_region_with (go_at_call 43; (refine HN.out.mono ?_); rintro e w2 ⟨v, er2, s2, ov2, rfl, hv, h2, m2, g2, e2⟩; obtain ⟨k1, k2, k3, k4⟩ := AFT.out v er2 w2 ov2 s2 h2 m2; have C4 := Lib.hid k4; have G2 := Lib.hid g2; have HV := Lib.hid hv; have HE2 := Lib.hid e2; clear h2 m2 k4 g2 hv e2)
          all_goals
            go_wp2
            go_roundg (c + 4 - (i + 1))
            case measure => omega
            case rel =>
              refine ⟨l' ++ [v], er2, s2, ov2, ?_, ?_, ?_, C4.out, Lib.hid ⟨G2.out, fun x hx => ?_⟩, Lib.hid fun h => HE.out (HE2.out h)⟩
              · rw [List.length_append, List.length_singleton, ← HI.out]; omega
              · rw [List.length_append, List.length_singleton, ← HI.out]; exact Nat.le_refl _
              · rw [List.length_append, List.length_singleton, ← HI.out]; go_num
              · rcases List.mem_append.1 hx with hx | hx
                · exact H8.out x hx
                · rw [List.mem_singleton.1 hx]; exact HV.out
        · have hi4 : i = c + 4 := by omega
          have hl5 : l'.length = c + 4 := by omega
          have hG := HG.out.1
          rw [hl5, Nat.sub_self, rdO, Res.bind_ok] at hG
          have G5 := Lib.hid hG
          have H8 := Lib.hid HG.out.2
          have c4 := HX.out.qs.cells.c4
          rw [hl5]
          clear hG HG hi hi4 hl5 hlt hl' hgm
          have hcc : ¬ ((c + 4 : Nat) : Int) < (c : Int) + 4 := by omega
          by_cases h0 : er5 = 0
          · subst h0
            have hR := Lib.hid G5.out.fine
            have hld := L4.out (HE.out rfl)
            have HC : Hid (Calls Tryd.prog 61 #[.pointer (some ⟨p, 0, none⟩), .slice (some ⟨q + 1, 0, none⟩) 19 19, .bool true, .bool false] wr (CodeTo B p rv bs lim nb 0 wr ov5 s5 (ownOf l') true false)) := Lib.hid (by
              have := rcode_any HX.out.qs (some ⟨q + 1, 0, none⟩) 19 (ownOf l') (blk_is HX.out.row (zn (ownOf l')) (by rw [zn_len, ownOf_len]) fun j _ => zn_at _ _) (by rw [ownOf_len]; omega) (ownOf_small H8.out) true false
              rwa [ownOf_len] at this)
            have HTP := Lib.hid HX.out.qs.top
            have HM5 := Lib.hid HX.out.m
            have HQ5 := Lib.hid HX.out.qs
            have hlw := HX.out.lo
            have hln := HX.out.row.lt
            clear HX G5 HE L4 L5 hcc
            go_wp2_with fail
            refine HC.out.mono ?_
            rintro e w6 hcode
            obtain ⟨cv, rfl, HS⟩ : ∃ cv, e = .returned cv ∧ Hid (∀ n0 k5, n0 = 258 + l + d → k5 = told5 bs lim l → ∀ v9 v10 aa ac W, v9 = .slice aa 0 ac → ∀ bo bc, v10 = .slice bo 0 bc → W.ownsRow w6.heap.size 112 2 v9 0 [] → Below w6.heap.size w6 W → Tq B p rv bs lim nb w ov w6 ov5 cv (ownOf l') n0 k5 R (n0 + 1) v9 v10 W) := by
              rcases hcode with ⟨hck, pc, rfl, hcd, hq6, hb6⟩ | ⟨hck, rfl, hq6, hm6⟩
              · refine ⟨_, rfl, Lib.hid fun n0 k5 hn0 hk5 v9 v10 aa ac W h9 bo bc h10 hown hbel => ?_⟩
                have hroom := cok_own.1 hck
                obtain ⟨h7, m7⟩ := hq6.grow hbel
                have m6 := (HQ5.out.grow hb6).2
                subst h9 h10
                refine .go pc [] [] aa bo ac bc ov5 s5 rfl rfl rfl (by simp) ⟨h7, (HM5.out.trans m6).trans m7, m7, (HM5.out.trans m6).touch.size, hcd, ⟨⟨by rw [ownOf_len]; omega, ownOf_small H8.out, hck.1⟩, ownOf_len l'⟩, hown, fun w2 _ => .inl rfl, Nat.zero_le _, rfl, Nat.le_refl _, Nat.zero_le _, fun x hx => (by cases hx), ?_⟩
                rw [hR.out]
                unfold told4 lk
                rw [if_neg (by simpa using hroom), if_neg (by simp; omega), hn0, hk5]
                rfl
              · refine ⟨_, rfl, Lib.hid fun n0 k5 hn0 hk5 v9 v10 aa ac W h9 bo bc h10 hown hbel => ?_⟩
                obtain ⟨h7, m7⟩ := hq6.grow hbel
                refine .bad 10 ov5 s5 h7 ((HM5.out.trans hm6).trans m7) ?_ (by omega)
                rw [hR.out]
                unfold told4
                rw [if_pos (fun e => hck (cok_own.2 e))]
            obtain ⟨n0, hn0⟩ : ∃ n0, n0 = 258 + l + d := ⟨_, rfl⟩
            obtain ⟨k5, hk5⟩ : ∃ k5, k5 = told5 bs lim l := ⟨_, rfl⟩
            have hn0b : 258 ≤ n0 ∧ n0 ≤ 316 := by omega
            have en0 : (l : Int) + d + 258 = n0 := by omega
            have HK5 := Lib.hid hk5
            have HN0 := Lib.hid hn0
            have HS1 := Lib.hid (HS.out n0 k5 hn0 hk5)
            clear hcode HC HTP HQ5 HM5 H8 hR hk5 hn0 HS hlw hln c4
            go_wp2
            have HT0 : Hid (Tq B p rv bs lim nb w ov w6 ov5 cv (ownOf l') n0 k5 R (n0 + 1) (.slice (some ⟨w6.heap.size, 0, none⟩) 0 0) (.slice (some ⟨w6.heap.size + 1, 0, none⟩) 0 0) ((w6.alloc (.cells #[] 112)).alloc (.cells #[] 3))) :=
              Lib.hid (HS1.out _ _ _ _ _ rfl _ _ rfl (World.ownsRow.alloc (w := w6.alloc (.cells #[] 112)) (own_none w6 112 2) _) (((Below.refl _ w6).alloc (Nat.le_refl _) _).alloc (by rw [alloc_size]; omega) _))
            clear HS1
            go_loopg [9, 10] (n0 + 1) (fun gm v9 v10 wr => Hid (Tq B p rv bs lim nb w ov w6 ov5 cv (ownOf l') n0 k5 R gm v9 v10 wr))
            case atStart => exact HT0
            case round =>
              clear HT0
              cases hrel.out with
              | bad er ov7 s7 q7 m7 r7 her =>
                have c4 := q7.cells.c4
                have dE : ((er : Int) == 0) = false := by simp; omega
                have dF : ((er : Int) != 0) = true := by simp; omega
                have HQ7 := Lib.hid q7
                have HM7 := Lib.hid m7
                have HR7 := Lib.hid r7
                clear q7 m7 r7 her hrel
                go_wp2
                go_end0
                exact QTo.bad HR7.out HQ7.out HM7.out
              | go pc row items io aa ic ac ov7 s7 h9 h10 hc7 g7 h7 =>
                have H7 := Lib.hid h7
                subst h9 h10 hc7
                by_cases hfull : row.length = n0
                · have hR := H7.out.r
                  unfold lk at hR
                  rw [if_pos hfull, HK5.out] at hR
                  unfold told5 at hR
                  have hI := H7.out.al wr (Touch.refl _ _)
                  obtain ⟨b, off, rfl, q0⟩ := hI.at (k := 256) (by rw [zn_len]; omega)
                  rw [zn_at] at q0
                  obtain ⟨x, hx⟩ : ∃ x, x = row.getD 256 0 := ⟨_, rfl⟩
                  obtain ⟨A, hA⟩ : ∃ A, A = 257 + l := ⟨_, rfl⟩
                  rw [← hx, ← hA] at hR
                  rw [← hx] at q0
                  have hx16 : x ≤ 15 := by
                    rw [hx, List.getD_eq_getElem?_getD, List.getElem?_eq_getElem (by omega)]
                    exact H7.out.sm _ (List.getElem_mem _)
                  have c4 := H7.out.qs.cells.c4
                  have hcapN : n0 ≤ ac := by rw [← hfull]; exact H7.out.cap
                  have HR7 := Lib.hid hR
                  have HIS := Lib.hid hI
                  have HFULL := Lib.hid hfull
                  have hnn : ¬ (n0 : Int) < n0 := by omega
                  rw [hfull]
                  clear hR hI hx h7 hrel g7 hfull
                  by_cases hx0 : x = 0
                  · subst hx0
                    have HR8 : Hid (R = .bad 10) := Lib.hid (by have := HR7.out; rwa [if_pos rfl] at this)
                    clear HR7 hA
                    go_wp2_with fail
                    refine (fail_yes H7.out.qs 10 (by omega)).mono ?_
                    rintro e w8 ⟨rfl, h8, m8⟩
                    have H8 := Lib.hid h8
                    have M8 := Lib.hid (H7.out.m.trans m8)
                    clear h8 m8 q0 c4
                    go_wp2
                    go_end0
                    exact QTo.bad HR8.out H8.out M8.out
                  · have HR8 : Hid (R = if fits row A then syms bs lim (row.take A) (row.drop A) s7 else .bad 10) := Lib.hid (by have := HR7.out; rwa [if_neg hx0] at this)
                    have d1 : ((x : Int) == 0) = false := by simp; omega
                    obtain ⟨D, hD⟩ : ∃ D, D = n0 - A := ⟨_, rfl⟩
                    have eA : (l : Int) + 257 = A := by omega
                    have hND : n0 - A = D := by omega
                    have hAN : A < n0 := by have := HN0.out; omega
                    have hAN' : (A : Int) ≤ n0 := by omega
                    have hc7 : (n0 : Int) ≤ ac := by omega
                    have hAc : (A : Int) ≤ ac := by omega
                    have hne : ¬ (ac = A) := by omega
                    obtain ⟨fl, hfl⟩ : ∃ fl, fl = row.take A := ⟨_, rfl⟩
                    obtain ⟨ol, hol⟩ : ∃ ol, ol = row.drop A := ⟨_, rfl⟩
                    have hl1 : fl.length = A := by rw [hfl, List.length_take, HFULL.out]; omega
                    have hl2 : ol.length = D := by rw [hol, List.length_drop, HFULL.out]; omega
                    have h15 : (∀ z ∈ fl, z ≤ 15) ∧ ∀ z ∈ ol, z ≤ 15 := ⟨fun z hz => H7.out.sm z (by rw [hfl] at hz; exact List.mem_of_mem_take hz), fun z hz => H7.out.sm z (by rw [hol] at hz; exact List.mem_of_mem_drop hz)⟩
                    have HF := Lib.hid (fits_iff (row := row) (l := A) H7.out.sm)
                    have HIO : Hid (∀ w2, Touch (QT p ov7) wr w2 → IS w2 (some ⟨b, off + A, none⟩) (zn ol)) := Lib.hid fun w2 ht => by rw [hol, ← zn_drop]; exact is_drop (H7.out.al w2 ht) A
                    have HC1 : Hid (Calls Tryd.prog 61 #[.pointer (some ⟨p, 0, none⟩), .slice (some ⟨b, off, none⟩) A ac, .bool false, .bool false] wr (CodeTo B p rv bs lim nb 0 wr ov7 s7 fl false false)) := Lib.hid (by
                      have := rcode_any H7.out.qs (some ⟨b, off, none⟩) ac fl (by rw [hfl, ← zn_take]; exact is_take HIS.out A) (by omega) h15.1 false false
                      rwa [hl1] at this)
                    rw [← hfl, ← hol] at HF
                    have HSY : Hid (cok fl false false → cok ol false true → R = syms bs lim fl ol s7) := Lib.hid fun k1 k2 => by rw [HR8.out, if_pos (HF.out.2 ⟨k1, k2⟩), hfl, hol]
                    have HSN : Hid (¬ (cok fl false false ∧ cok ol false true) → R = .bad 10) := Lib.hid fun k => by rw [HR8.out, if_neg (fun e => k (HF.out.1 e))]
                    have HL := Lib.hid (And.intro (And.intro hl1 hl2) h15)
                    have hAb : A ≤ 316 ∧ D ≤ 316 := by omega
                    have HQ7 := Lib.hid H7.out.qs
                    have HM7 := Lib.hid H7.out.m
                    clear HR7 HR8 HF HIS hx0 hfl hol hl1 hl2 h15 H7 hA hD
                    go_wp2_with fail
                    refine HC1.out.mono ?_
                    rintro e w8 h8
                    rcases h8 with ⟨k1, p1, rfl, cd1, q8, b8⟩ | ⟨k1, rfl, q8, m8'⟩
                    · have m8' : Qv p wr ov7 w8 ov7 := ⟨(Touch.of_below b8 : Touch (fun _ => False) wr w8).mono fun k hk => hk.elim, fun _ x => .inl x⟩
                      have HC2 : Hid (Calls Tryd.prog 61 #[.pointer (some ⟨p, 0, none⟩), .slice (some ⟨b, off + A, none⟩) D (ac - A), .bool false, .bool true] w8 (CodeTo B p rv bs lim nb 0 w8 ov7 s7 ol false true)) := Lib.hid (by
                        have := rcode_any q8 (some ⟨b, off + A, none⟩) (ac - A) ol (HIO.out w8 m8'.touch) (by have := HL.out.1.2; omega) HL.out.2.2 false true
                        rwa [HL.out.1.2] at this)
                      have M8 := Lib.hid (HM7.out.trans m8')
                      have K1 := Lib.hid k1
                      have CD1 := Lib.hid cd1
                      clear cd1
                      clear k1 q8 m8' HC1 HIO b8 c4 q0
                      go_wp2_with fail
                      refine HC2.out.mono ?_
                      rintro e w9 h9
                      rcases h9 with ⟨k2, p2, rfl, cd2, q9, b9⟩ | ⟨k2, rfl, q9, m9'⟩
                      · have m9' : Qv p w8 ov7 w9 ov7 := ⟨(Touch.of_below b9 : Touch (fun _ => False) w8 w9).mono fun k hk => hk.elim, fun _ x => .inl x⟩
                        have H9 := Lib.hid q9
                        have HRS := Lib.hid (HSY.out K1.out k2)
                        have M9 := Lib.hid (M8.out.trans m9')
                        have CE1 := Lib.hid (CD1.out.on m9')
                        have CE2 := Lib.hid cd2
                        have HY := Lib.hid (rsymbols_any H9.out CE1.out CE2.out ⟨by have := HL.out.1.1; omega, HL.out.2.1, K1.out.1⟩ ⟨by have := HL.out.1.2; omega, HL.out.2.2, k2.1⟩)
                        rw [← HRS.out] at HY
                        clear q9 m9' b9 cd2 k2
                        go_wp2_with fail
                        refine HY.out.mono ?_
                        rintro e w10 h10
                        cases hRR : R with
                        | bad er =>
                          rw [hRR] at h10
                          obtain ⟨rfl, ov10, s10, h10, m10⟩ := h10
                          have H10 := Lib.hid h10
                          have M10 := Lib.hid (M9.out.trans m10)
                          have HRR := Lib.hid hRR
                          clear h10 m10 hRR
                          go_wp2
                          go_end0
                          exact QTo.bad HRR.out H10.out M10.out
                        | ok u s10 =>
                          rw [hRR] at h10
                          obtain ⟨rfl, ov10, h10, m10⟩ := h10
                          have H10 := Lib.hid h10
                          have M10 := Lib.hid (M9.out.trans m10)
                          have HRR := Lib.hid hRR
                          clear h10 m10 hRR
                          go_wp2
                          go_end0
                          exact QTo.ok (enc := uv) HRR.out H10.out M10.out
                      · have H9 := Lib.hid q9
                        have HRB : Hid (R = .bad 10) := Lib.hid (HSN.out fun e => k2 e.2)
                        have M9' := Lib.hid (M8.out.trans m9')
                        clear q9 m9' k2
                        go_wp2
                        go_end0
                        exact QTo.bad HRB.out H9.out M9'.out
                    · have HC2 : Hid (Calls Tryd.prog 61 #[.pointer (some ⟨p, 0, none⟩), .slice (some ⟨b, off + A, none⟩) D (ac - A), .bool false, .bool true] w8 (CodeTo B p rv bs lim nb (sf 0 10) w8 ov7 s7 ol false true)) := Lib.hid (by
                        have := rcode_any q8 (some ⟨b, off + A, none⟩) (ac - A) ol (HIO.out w8 m8'.touch) (by have := HL.out.1.2; omega) HL.out.2.2 false true
                        rwa [HL.out.1.2] at this)
                      have M8 := Lib.hid (HM7.out.trans m8')
                      have K1 := Lib.hid k1
                      clear k1 q8 m8' HC1 HIO c4 q0
                      go_wp2_with fail
                      refine HC2.out.mono ?_
                      rintro e w9 h9
                      rcases h9 with ⟨k2, p2, rfl, cd2, q9, b9⟩ | ⟨k2, rfl, q9, m9'⟩
                      · have m9' : Qv p w8 ov7 w9 ov7 := ⟨(Touch.of_below b9 : Touch (fun _ => False) w8 w9).mono fun k hk => hk.elim, fun _ x => .inl x⟩
                        have H9 := Lib.hid q9
                        have HRB : Hid (R = .bad 10) := Lib.hid (HSN.out fun e => K1.out e.1)
                        have M9' := Lib.hid (M8.out.trans m9')
                        clear q9 m9' b9 cd2 k2
                        go_wp2
                        go_end0
                        exact QTo.bad HRB.out H9.out M9'.out
                      · have H9 := Lib.hid q9
                        have HRB : Hid (R = .bad 10) := Lib.hid (HSN.out fun e => K1.out e.1)
                        have M9' := Lib.hid (M8.out.trans m9')
                        clear q9 m9' k2
                        go_wp2
                        go_end0
                        exact QTo.bad HRB.out H9.out M9'.out
                · have hR := H7.out.r
                  rw [lk_eq hfull H7.out.qs.in_] at hR
                  have HS := Lib.hid (sym_go H7.out.qs (H7.out.cod.on H7.out.m6) H7.out.ok.1 hR)
                  have c4 := H7.out.qs.cells.c4
                  obtain ⟨rl, hrl⟩ : ∃ rl, rl = row.length := ⟨_, rfl⟩
                  have hrn : rl < n0 := by have := H7.out.top; omega
                  have hrn' : (rl : Int) < n0 := by omega
                  have HRL := Lib.hid hrl
                  obtain ⟨il, hil⟩ : ∃ il, il = items.length := ⟨_, rfl⟩
                  have HIL := Lib.hid hil
                  have hilr : il ≤ rl := by have := H7.out.few; omega
                  have HIT : Hid (wr.ownsRow w6.heap.size 112 2 (.slice io il ic) il (Z.icl items)) := Lib.hid (by rw [hil]; exact H7.out.it)
                  rw [← hrl] at g7 ⊢
                  rw [← hil]
                  clear hR h7 hrel hfull hrl hil
                  go_wp2_with fail
                  refine HS.out.mono ?_
                  rintro e w8 ⟨y, er8, s8, ov8, rfl, hy0, hy18, h8, m8, g8⟩
                  have hy18' : y ≤ 18 := by rw [H7.out.ok.2] at hy18; exact hy18
                  have Q8 := Lib.hid h8
                  have M8 := Lib.hid m8
                  have G8 := Lib.hid g8
                  have IT8 := Lib.hid (H7.out.qs.keepItems HIT.out m8.touch)
                  obtain ⟨bx, hbx⟩ : ∃ bx, bx = w8.heap.size := ⟨_, rfl⟩
                  have HBX := Lib.hid hbx
                  clear hy18 h8 m8 g8 HS HIT c4
                  go_upto_if 91 with fail
                  rw [← hbx]
                  clear hbx
                  go_cut [] from 67 to 128 (fun wx => ∃ (v er9 : Nat) (s9 : Sta) (ov9 : Value), Hid (QS B p rv bs lim nb er9 wx ov9 s9) ∧ Hid (Qv p w8 ov8 wx ov9) ∧ Hid (wx.ownsRow w6.heap.size 112 2 (.slice io il ic) il (Z.icl items)) ∧ Hid (Blk wx bx 112 #[.int .i64 (y : Nat), .int .i64 (v : Nat)]) ∧ Hid (Gd R er9 (nextL bs (ownOf l') n0 k5 row y v s9)) ∧ (y < 16 → v = 0) ∧ v < 2 ^ xb y)
                  case first =>
                    by_cases hy16 : y < 16
                    · have hy16' : (y : Int) < 16 := by omega
                      have hx : Below w8.heap.size w8 (w8.alloc (.cells #[.int .i64 (y : Nat), .int .i64 0] 112)) := (Below.refl _ w8).alloc (Nat.le_refl _) _
                      have hq := Q8.out.grow hx
                      have HX : Hid (QS B p rv bs lim nb er8 (w8.alloc (.cells #[.int .i64 (y : Nat), .int .i64 0] 112)) ov8 s8 ∧ Qv p w8 ov8 (w8.alloc (.cells #[.int .i64 (y : Nat), .int .i64 0] 112)) ov8) := Lib.hid hq
                      have HX2 : Hid ((w8.alloc (.cells #[.int .i64 (y : Nat), .int .i64 0] 112)).ownsRow w6.heap.size 112 2 (.slice io il ic) il (Z.icl items)) := Lib.hid (World.ownsRow.alloc (w := w8) IT8.out _)
                      have HX3 : Hid (Blk (w8.alloc (.cells #[.int .i64 (y : Nat), .int .i64 0] 112)) bx 112 #[.int .i64 (y : Nat), .int .i64 0]) := Lib.hid (by rw [HBX.out]; exact Blk.made _ _ _)
                      have HX4 : Hid (Gd R er8 (nextL bs (ownOf l') n0 k5 row y 0 s8)) := Lib.hid (by have := G8.out; rwa [if_neg (by omega)] at this)
                      clear hx hq
                      go_wp2
                      go_meet
                      case rel => exact ⟨0, er8, s8, ov8, Lib.hid HX.out.1, Lib.hid HX.out.2, HX2, HX3, HX4, fun _ => rfl, Nat.two_pow_pos _⟩
                    · have h80 : er8 = 0 := Decidable.byContradiction fun e => by have := hy0 e; omega
                      subst h80
                      have HNB : Hid (∀ n W, Below w8.heap.size w8 W → n = xb y → Calls Tryd.prog 43 #[.pointer (some ⟨p, 0, none⟩), .int .i64 (n : Nat)] W _) := Lib.hid fun n W hb hn => num_go (k := fun v s2 => nextL bs (ownOf l') n0 k5 row y v s2) (R := R) (Q8.out.grow hb).1 n (by rw [hn]; unfold xb; split; omega; split; omega; split <;> omega) (by have := G8.out; rw [if_pos ⟨by omega, hy18'⟩] at this; rw [hn]; exact this)
                      have HAF : Hid (∀ W v er9 w9 ov9 s9, W = ((w8.alloc (.cells #[.int .i64 (y : Nat), .int .i64 0] 112)).alloc (.cells #[.int .i64 2, .int .i64 3, .int .i64 7] 3)) → QS B p rv bs lim nb er9 w9 ov9 s9 → Qv p W ov8 w9 ov9 →
                          w9.cell? ⟨bx, 0, none⟩ = some (.int .i64 (y : Nat)) ∧ w9.cell? ⟨bx, 1, none⟩ = some (.int .i64 0) ∧ w9.frozen? ⟨bx, 1, none⟩ = false ∧
                          Hid (QS B p rv bs lim nb er9 (w9.setCell ⟨bx, 1, none⟩ (.int .i64 (v : Nat))) ov9 s9) ∧ Hid (Qv p w8 ov8 (w9.setCell ⟨bx, 1, none⟩ (.int .i64 (v : Nat))) ov9) ∧ Hid ((w9.setCell ⟨bx, 1, none⟩ (.int .i64 (v : Nat))).ownsRow w6.heap.size 112 2 (.slice io il ic) il (Z.icl items)) ∧ Hid (Blk (w9.setCell ⟨bx, 1, none⟩ (.int .i64 (v : Nat))) bx 112 #[.int .i64 (y : Nat), .int .i64 (v : Nat)])) := Lib.hid fun W v er9 w9 ov9 s9 hW h9 m9 => by
                        have hb1 : Below w8.heap.size w8 W := by rw [hW]; exact ((Below.refl _ w8).alloc (Nat.le_refl _) _).alloc (by rw [alloc_size]; omega) _
                        have hB0 : Blk W bx 112 #[.int .i64 (y : Nat), .int .i64 0] := by
                          rw [hW, HBX.out]
                          exact (Blk.made w8 112 #[.int .i64 (y : Nat), .int .i64 0]).below ((Below.refl _ _).alloc (Nat.le_refl _) _)
                        have hq1 := Q8.out.grow hb1
                        have hnt : ¬ QT p ov8 bx := fun e => by have := Q8.out.top bx e; have := HBX.out; omega
                        have hB9 := hB0.touch m9.touch hnt
                        have ho := h9.other hB9 (by decide) (by decide)
                        have hset : Touch (fun k => k = bx) w9 (w9.setCell ⟨bx, 1, none⟩ (.int .i64 (v : Nat))) := (Touch.refl _ w9).setCell _ _ (.inl rfl)
                        have hI1 : W.ownsRow w6.heap.size 112 2 (.slice io il ic) il (Z.icl items) := ownsRow_below IT8.out hb1
                        have hI9 := hq1.1.keepItems hI1 m9.touch
                        refine ⟨(hB9.cell 0).trans rfl, (hB9.cell 1).trans rfl, hB9.free 1, Lib.hid (h9.aside hset (fun e => ho.1 e.symm) (fun k hk e => ho.2.1 k hk e) (fun k hk e => ho.2.2 k hk e)), Lib.hid ((hq1.2.trans m9).aside hset fun k hk => by have := HBX.out; omega), Lib.hid (ownsRow_touch hI9 hset fun k hk e => ?_), Lib.hid (hB9.setCell 1 _)⟩
                        have := (IT8.out.lt k hk).2
                        have := HBX.out
                        omega
                      have h3 : y = 16 ∨ y = 17 ∨ y = 18 := by omega
                      have hW0 : Below w8.heap.size w8 ((w8.alloc (.cells #[.int .i64 (y : Nat), .int .i64 0] 112)).alloc (.cells #[.int .i64 2, .int .i64 3, .int .i64 7] 3)) := ((Below.refl _ w8).alloc (Nat.le_refl _) _).alloc (by rw [alloc_size]; omega) _
                      have HW0 := Lib.hid hW0
                      clear hy16 hy0 hW0
                      have hbx1 := HBX.out
                      clear HBX
                      subst hbx1
                      rcases h3 with rfl | rfl | rfl
                      · go_wp2_with fail
                        refine (HNB.out 2 _ HW0.out rfl).mono ?_
                        rintro e w9 ⟨v, er9, s9, ov9, rfl, hv, h9, m9, g9, _⟩
                        obtain ⟨x0, x1, f1, X1, X2, X3, X4⟩ := HAF.out _ v er9 w9 ov9 s9 rfl h9 m9
                        have G9 := Lib.hid g9
                        clear h9 m9 g9 HAF HNB
                        go_wp2
                        go_meet
                        case rel => exact ⟨v, er9, s9, ov9, X1, X2, X3, X4, G9, fun e => by omega, hv⟩
                      · go_wp2_with fail
                        refine (HNB.out 3 _ HW0.out rfl).mono ?_
                        rintro e w9 ⟨v, er9, s9, ov9, rfl, hv, h9, m9, g9, _⟩
                        obtain ⟨x0, x1, f1, X1, X2, X3, X4⟩ := HAF.out _ v er9 w9 ov9 s9 rfl h9 m9
                        have G9 := Lib.hid g9
                        clear h9 m9 g9 HAF HNB
                        go_wp2
                        go_meet
                        case rel => exact ⟨v, er9, s9, ov9, X1, X2, X3, X4, G9, fun e => by omega, hv⟩
                      · go_wp2_with fail
                        refine (HNB.out 7 _ HW0.out rfl).mono ?_
                        rintro e w9 ⟨v, er9, s9, ov9, rfl, hv, h9, m9, g9, _⟩
                        obtain ⟨x0, x1, f1, X1, X2, X3, X4⟩ := HAF.out _ v er9 w9 ov9 s9 rfl h9 m9
                        have G9 := Lib.hid g9
                        clear h9 m9 g9 HAF HNB
                        go_wp2
                        go_meet
                        case rel => exact ⟨v, er9, s9, ov9, X1, X2, X3, X4, G9, fun e => by omega, hv⟩
                  case rest =>
                    obtain ⟨v, er9, s9, ov9, Q9, M9, IT9, X9, G9, hv0, hvx⟩ := hcut
                    have x0 := (X9.out.cell 0).trans (show _ = some (.int .i64 (y : Nat)) from rfl)
                    have x1 := (X9.out.cell 1).trans (show _ = some (.int .i64 (v : Nat)) from rfl)
                    have hsz : w6.heap.size ≤ wc.heap.size := Nat.le_trans (Nat.le_trans H7.out.m6.touch.size M8.out.touch.size) M9.out.touch.size
                    have HV := Lib.hid (And.intro hv0 hvx)
                    have hvb : v < 200 := by
                      refine Nat.lt_of_lt_of_le hvx ?_
                      unfold xb
                      split
                      · decide
                      · split
                        · decide
                        · split <;> decide
                    have hilb : il ≤ 316 := by omega
                    clear hv0 hvx Q8 G8 IT8 HBX hy0
                    have AFA : Hid (∀ ao2 c2 w9, Apg (wc.alloc (.cells #[.int .i64 (y : Nat), .int .i64 (v : Nat)] 112)) w6.heap.size 112 2 (.slice io il ic) (il + 1) (Z.icl items ++ [.int .i64 (y : Nat), .int .i64 (v : Nat)]) (.slice ao2 (il + 1) c2) w9 →
                        w9.cell? ⟨p, 4, none⟩ = some (.int .i64 (er9 : Nat)) ∧ Hid (QS B p rv bs lim nb er9 w9 ov9 s9) ∧ Hid (Qv p w ov w9 ov9) ∧ Hid (Qv p w6 ov5 w9 ov9) ∧ Hid (w9.ownsRow w6.heap.size 112 2 (.slice ao2 (il + 1) c2) (il + 1) (Z.icl (items ++ [((y : Int), (v : Int))])))) := Lib.hid fun ao2 c2 w9 hA => by
                      have h1 := Q9.out.grow ((Below.refl _ wc).alloc (Nat.le_refl _) (.cells #[.int .i64 (y : Nat), .int .i64 (v : Nat)] 112))
                      have own1 : (wc.alloc (.cells #[.int .i64 (y : Nat), .int .i64 (v : Nat)] 112)).ownsRow w6.heap.size 112 2 (.slice io il ic) il (Z.icl items) := World.ownsRow.alloc (w := wc) IT9.out _
                      have hq := h1.1.rowItems own1 hA.touch
                      have hge : ∀ k, (Value.slice io il ic).ownBlock = some k → w6.heap.size ≤ k := fun k hk => (own1.lt k hk).1
                      refine ⟨hq.cells.c4, Lib.hid hq, Lib.hid ((((H7.out.m.trans M8.out).trans M9.out).trans h1.2).aside hA.touch fun k hk => Nat.le_trans H7.out.ww (hge k hk)), Lib.hid ((((H7.out.m6.trans M8.out).trans M9.out).trans h1.2).aside hA.touch hge), Lib.hid ?_⟩
                      have := hA.own
                      rw [← Z.icl_app]
                      exact this
                    by_cases h90 : er9 = 0
                    · subst h90
                      have HNC := Lib.hid (next_cases hy18' HV.out.1 HV.out.2 H7.out.top hn0b.2 H7.out.sm H7.out.un G9.out.fine)
                      have HPC := Lib.hid (And.intro (And.intro H7.out.ww H7.out.cod) (And.intro H7.out.ok H7.out.few))
                      clear G9 Q9 M9 M8 H7 X9
                      go_wp2_with (refine wpList_append_g at110 rfl (.tmp 101) (.tmp 103) rfl w6.heap.size (.slice io il ic) (.slice (some ⟨wc.heap.size, 0, none⟩) 1 1) il 1 (Z.icl items) [.int .i64 (y : Nat), .int .i64 (v : Nat)] rfl rfl (World.ownsRow.alloc (w := wc) IT9.out _) (cells_two wc 112 _ _) rfl (icl_two ((y : Int), (v : Int))) (Nat.le_trans hsz (by simp)) (by omega) (by omega) ?_; intro ao2 c2 w9 hA; obtain ⟨c4, Q10, M10, N10, I10⟩ := AFA.out ao2 c2 w9 hA; clear hA)
                      have hu0 := Z.runpack_any ao2 c2 (items ++ [((y : Int), (v : Int))]) w9 (Z.own_ts I10.out (by rw [List.length_append, List.length_singleton, ← HIL.out])) (by rw [List.length_append, List.length_singleton, ← HIL.out]; omega)
                      rw [List.length_append, List.length_singleton, ← HIL.out] at hu0
                      refine hu0.mono ?_
                      clear hu0
                      rintro e w10 ⟨hb10, hnone, hsome⟩
                      have hq10 := Q10.out.grow hb10
                      have c4' := hq10.1.cells.c4
                      have Q11 := Lib.hid hq10.1
                      have M11 := Lib.hid (M10.out.trans hq10.2)
                      have N11 := Lib.hid (N10.out.trans hq10.2)
                      have I11 := Lib.hid (ownsRow_below I10.out hb10)
                      have HTP := Lib.hid Q10.out.top
                      clear hq10 AFA IT9 x0 x1 c4
                      rcases HNC.out with ⟨hu, hR⟩ | ⟨row', hu, hlt', h320, h15', hor⟩
                      · obtain rfl := hnone hu
                        have HR := Lib.hid hR
                        clear hnone hsome hu hR HNC hb10
                        go_wp2_with fail
                        refine (fail_yes Q11.out 10 (by omega)).mono ?_
                        rintro e w11 ⟨rfl, h11, m11⟩
                        have Q12 := Lib.hid h11
                        have M12 := Lib.hid (M11.out.trans m11)
                        clear h11 m11
                        go_wp2
                        go_end0
                        exact QTo.bad HR.out Q12.out M12.out
                      · obtain ⟨ao3, c3, rfl, hIS, hcap⟩ := hsome _ hu
                        rw [zn_len] at hcap ⊢
                        obtain ⟨rn, hrnE⟩ : ∃ rn, rn = row'.length := ⟨_, rfl⟩
                        rw [← hrnE] at hcap ⊢
                        have hrn3 : rn ≤ 320 := by omega
                        rcases hor with ⟨hbig, hR⟩ | ⟨hle, hR⟩
                        · have HR := Lib.hid hR
                          have d1 : (n0 : Int) < rn := by omega
                          clear hnone hsome hu hR HNC hb10 hIS hrnE hlt' h320 h15' hbig
                          go_wp2_with fail
                          refine (fail_yes Q11.out 10 (by omega)).mono ?_
                          rintro e w11 ⟨rfl, h11, m11⟩
                          have Q12 := Lib.hid h11
                          have M12 := Lib.hid (M11.out.trans m11)
                          clear h11 m11
                          go_wp2
                          go_end0
                          exact QTo.bad HR.out Q12.out M12.out
                        · have d1 : decide ((n0 : Int) < rn) = false := by simp; omega
                          have d2 : decide (n0 < rn) = false := by simp; omega
                          have hgo : n0 - rn + 1 < gk := by have := HRL.out; omega
                          have hfew : il + 1 ≤ rn := by have := HRL.out; omega
                          have hrn0 : rn ≤ n0 := by omega
                          have HRR := Lib.hid hR
                          have HU := Lib.hid hu
                          have H15 := Lib.hid h15'
                          have HIS := Lib.hid hIS
                          have HRN := Lib.hid hrnE
                          clear hnone hsome hu hR HNC hb10 hIS hrnE hlt' h320 h15' hle
                          go_wp2
                          go_roundg (n0 - rn + 1)
                          case measure => omega
                          case rel =>
                            refine Lib.hid (.go pc row' (items ++ [((y : Int), (v : Int))]) ao2 ao3 c2 c3 ov9 s9 ?_ ?_ rfl ?_ ⟨Q11.out, M11.out, N11.out, HPC.out.1.1, HPC.out.1.2, HPC.out.2.1, ?_, fun w2 ht => ?_, ?_, HU.out, ?_, ?_, H15.out, HRR.out⟩)
                            · rw [List.length_append, List.length_singleton, ← HIL.out]
                            · rw [← HRN.out]
                            · rw [← HRN.out]; exact Nat.le_refl _
                            · rw [List.length_append, List.length_singleton, ← HIL.out]; exact I11.out
                            · exact HIS.out w2 (ht.mono fun k hk => HTP.out k hk).toZ
                            · rw [← HRN.out]; exact hcap
                            · rw [List.length_append, List.length_singleton, ← HIL.out, ← HRN.out]; exact hfew
                            · rw [← HRN.out]; exact hrn0
                    · have HR := Lib.hid (G9.out.2 h90)
                      have dE : ((er9 : Int) != 0) = true := by simp; omega
                      clear G9 Q9 M9 M8 H7 X9 h90
                      go_wp2_with (refine wpList_append_g at110 rfl (.tmp 101) (.tmp 103) rfl w6.heap.size (.slice io il ic) (.slice (some ⟨wc.heap.size, 0, none⟩) 1 1) il 1 (Z.icl items) [.int .i64 (y : Nat), .int .i64 (v : Nat)] rfl rfl (World.ownsRow.alloc (w := wc) IT9.out _) (cells_two wc 112 _ _) rfl (icl_two ((y : Int), (v : Int))) (Nat.le_trans hsz (by simp)) (by omega) (by omega) ?_; intro ao2 c2 w9 hA; obtain ⟨c4, Q10, M10, N10, I10⟩ := AFA.out ao2 c2 w9 hA; clear hA)
                      go_end0
                      exact QTo.bad HR.out Q10.out M10.out
          · have dE : ((er5 : Int) != 0) = true := by simp; omega
            have HR := Lib.hid (G5.out.2 h0)
            clear h0 G5
            go_wp2
            go_end0
            exact QTo.bad HR.out HX.out.qs HX.out.m
end
end Go.Proofs.YtnnkegpnjedneaaDoor

