/-
  tokens: all bytes told.
-/
import Derived.Test.YtjjjchdocnoabaaDoorFe
namespace Go.Proofs.YtjjjchdocnoabaaDoor
open Go.RowKit Go.Maps
set_option maxRecDepth 100000

theorem Fin.touched {S : Nat → Prop} {w w' : World} {B p mb ab pl wt : Nat} {bv : Value} {bs : List Nat} {cop : Bool} {n : Nat} (h : Fin w B p mb ab pl wt bv bs cop n) (ht : Touch S w w') (h1 : ¬ S p) (h2 : ¬ S mb) (h3 : ¬ S ab) (hS : ∀ k, S k → B ≤ k) : Fin w' B p mb ab pl wt bv bs cop n := by
  obtain ⟨t1, t2⟩ := h.touch ht h1 hS
  obtain ⟨D, ⟨es, clock, hk, F, hs, hD⟩, hM⟩ := h.map
  obtain ⟨g, hg, hv⟩ := h.ring
  exact ⟨t1, t2, ⟨D, ⟨es, clock, (ht.block mb (Array.getElem?_eq_some_iff.1 hk).1 h2).trans hk, F, hs, hD⟩, hM⟩, ⟨g, hg.touch ht h3, hv⟩, h.far, h.nums⟩
theorem Fin.setCop {w : World} {B p mb ab pl wt : Nat} {bv : Value} {bs : List Nat} {cop : Bool} {n : Nat} (h : Fin w B p mb ab pl wt bv bs cop n) (c : Bool) : Fin (w.setCell ⟨p, 5, none⟩ (.bool c)) B p mb ab pl wt bv bs c n ∧ Touch (fun k => k = p) w (w.setCell ⟨p, 5, none⟩ (.bool c)) := by
  have ht : Touch (fun k => k = p) w (w.setCell ⟨p, 5, none⟩ (.bool c)) := (Touch.refl _ w).setCell _ _ (.inl rfl)
  have hf := h.far
  obtain ⟨D, ⟨es, clock, hk, F, hs, hD⟩, hM⟩ := h.map
  obtain ⟨g, hg, hv⟩ := h.ring
  refine ⟨⟨?_, by_far h.by_ hf.1 ht fun k hk => by omega, ⟨D, ⟨es, clock, (ht.block mb (Array.getElem?_eq_some_iff.1 hk).1 (by omega)).trans hk, F, hs, hD⟩, hM⟩, ⟨g, hg.touch ht (by omega), hv⟩, hf, h.nums⟩, ht⟩
  have := h.blk.setCell 5 (.bool c)
  simpa using this

/-- While bytes are told: the finder, the tokens so far, the token at hand. -/
structure Tq (w : World) (B p mb ab pl wt : Nat) (v : Value) (bs : List Nat) (n : Nat) (cop : Bool) (r : List M.Tok) (lv : Value) (wr : World) : Prop where
  fin : Fin wr B p mb ab pl wt v bs cop n
  own : wr.ownsRow w.heap.size 34 3 lv r.length (tcl r)
  below : Below B w wr
  old : p < w.heap.size ∧ mb < w.heap.size ∧ ab < w.heap.size ∧ B ≤ w.heap.size
structure Tt (w : World) (B p mb ab pl wt : Nat) (v : Value) (bs : List Nat) (n : Nat) (cop : Bool) (r : List M.Tok) (lv : Value) (bt : Nat) (t : M.Tok) (wr : World) : Prop where
  q : Tq w B p mb ab pl wt v bs n cop r lv wr
  x : Blk wr bt 34 #[.int .u8 (t.lit : Nat), .int .i64 (t.len : Nat), .int .i64 (t.dist : Nat)]
  new : w.heap.size ≤ bt
  nb : ∀ k, lv.ownBlock = some k → k ≠ bt
section
variable {w wr w' : World} {B p mb ab pl wt n n' : Nat} {v : Value} {bs : List Nat} {cop : Bool} {r : List M.Tok} {lv : Value} {bt : Nat} {t : M.Tok}
theorem Tq.touched {S : Nat → Prop} (h : Tq w B p mb ab pl wt v bs n cop r lv wr) (hf : Fin w' B p mb ab pl wt v bs cop n') (ht : Touch S wr w') (hS : ∀ k, S k → B ≤ k) (ho : ∀ k, lv.ownBlock = some k → ¬ S k) : Tq w B p mb ab pl wt v bs n' cop r lv w' :=
  ⟨hf, ownsRow_touch h.own ht ho, h.below.trans (ht.below (Nat.le_trans h.old.2.2.2 h.below.size) hS), h.old⟩
theorem Tq.grow (h : Tq w B p mb ab pl wt v bs n cop r lv wr) (hb : Below wr.heap.size wr w') : Tq w B p mb ab pl wt v bs n cop r lv w' :=
  h.touched (S := fun _ => False) (h.fin.grow hb) (Touch.of_below hb) (fun _ e => e.elim) (fun _ _ e => e)
theorem Tq.made (h : Tq w B p mb ab pl wt v bs n cop r lv wr) (t : M.Tok) : Tt w B p mb ab pl wt v bs n cop r lv wr.heap.size t (wr.alloc (.cells #[.int .u8 (t.lit : Nat), .int .i64 (t.len : Nat), .int .i64 (t.dist : Nat)] 34)) :=
  ⟨h.grow ((Below.refl _ _).alloc (Nat.le_refl _) _), Blk.made wr 34 _, h.below.size, fun k hk => by have := (h.own.lt k hk).2; omega⟩
theorem Tt.grow (h : Tt w B p mb ab pl wt v bs n cop r lv bt t wr) (hb : Below wr.heap.size wr w') : Tt w B p mb ab pl wt v bs n cop r lv bt t w' :=
  ⟨h.q.grow hb, h.x.below hb, h.new, h.nb⟩
theorem Tq.keep (h : Tq w B p mb ab pl wt v bs n cop r lv wr) (hf : Fin w' B p mb ab pl wt v bs cop n') (ht : Touch (Kps mb ab) wr w') : Tq w B p mb ab pl wt v bs n' cop r lv w' := by
  have ho := h.old
  have hff := h.fin.far
  exact h.touched hf ht (fun k hk => by unfold Kps at hk; omega) (fun k hk hs => by have := (h.own.lt k hk).1; unfold Kps at hs; omega)
theorem Tt.keep (h : Tt w B p mb ab pl wt v bs n cop r lv bt t wr) (hf : Fin w' B p mb ab pl wt v bs cop n') (ht : Touch (Kps mb ab) wr w') : Tt w B p mb ab pl wt v bs n' cop r lv bt t w' := by
  have ho := h.q.old
  have hn := h.new
  exact ⟨h.q.keep hf ht, h.x.touch ht (by unfold Kps; omega), hn, h.nb⟩
theorem Tt.set (h : Tt w B p mb ab pl wt v bs n cop r lv bt t wr) (t' : M.Tok) : Tt w B p mb ab pl wt v bs n cop r lv bt t' (set3 wr bt (.int .u8 (t'.lit : Nat)) (.int .i64 (t'.len : Nat)) (.int .i64 (t'.dist : Nat))) := by
  have ht := touch_set3 wr bt (.int .u8 (t'.lit : Nat)) (.int .i64 (t'.len : Nat)) (.int .i64 (t'.dist : Nat))
  have ho := h.q.old
  have hn := h.new
  exact ⟨h.q.touched (h.q.fin.touched ht (by omega) (by omega) (by omega) (fun k hk => by omega)) ht (fun k hk => by omega) (fun k hk hs => h.nb k hk hs), blk_set3 h.x _ _ _, hn, h.nb⟩
theorem Tt.app {lv' : Value} {o : Obj} {m : Nat} (h : Tt w B p mb ab pl wt v bs n cop r lv bt t wr) (hA : Apg (wr.alloc o) w.heap.size 34 3 lv m (tcl r ++ tcl [t]) lv' w') (hm : m = r.length + 1) : Tt w B p mb ab pl wt v bs n cop (r ++ [t]) lv' bt t w' := by
  subst hm
  have hB := hA.alloc
  have ho := h.q.old
  have hlow : ∀ k, lv.ownBlock = some k → w.heap.size ≤ k := fun k hk => (h.q.own.lt k hk).1
  have hF := h.q.fin.touched hB.touch (fun e => by have := hlow _ e; omega) (fun e => by have := hlow _ e; omega) (fun e => by have := hlow _ e; omega) (fun k hk => by have := hlow k hk; omega)
  refine ⟨⟨hF, ?_, h.q.below.trans (hB.touch.below (Nat.le_trans ho.2.2.2 h.q.below.size) fun k hk => by have := hlow k hk; omega), ho⟩, h.x.touch hB.touch fun e => h.nb _ e rfl, h.new, fun k hk => ?_⟩
  · have := hB.own
    rw [tcl_app] at this
    rwa [List.length_append, List.length_singleton]
  · rcases hB.row k hk with e | e
    · exact h.nb k e
    · have := h.x.lt; omega
theorem Tt.copy (h : Tt w B p mb ab pl wt v bs n cop r lv bt t wr) (c : Bool) : Tt w B p mb ab pl wt v bs n c r lv bt t (wr.setCell ⟨p, 5, none⟩ (.bool c)) := by
  obtain ⟨hF, ht⟩ := h.q.fin.setCop c
  have ho := h.q.old
  have hf := h.q.fin.far
  have hn := h.new
  exact ⟨⟨hF, ownsRow_touch h.q.own ht (fun k hk hs => by have := (h.q.own.lt k hk).1; omega), h.q.below.trans (ht.below (Nat.le_trans ho.2.2.2 h.q.below.size) fun k hk => by omega), ho⟩, h.x.touch ht (by omega), hn, h.nb⟩
end

/-- What tokens answers. -/
def TokTo (B : Nat) (bs : List Nat) (w : World) (e : Ending) (w' : World) : Prop :=
  ∃ ao c r, e = .returned (.slice ao r.length c) ∧ KS w' ao r ∧ Below B w w' ∧ (r.length ≤ c ∧ (ao = none → c = 0)) ∧ M.ex r [] = some bs ∧ (∀ t ∈ r, t.lit < 256) ∧ ((∃ t ∈ r, t.len ≠ 0) ∨ M.NoFour bs)
theorem own_cap {w : World} {base e size n c : Nat} {ao : Option Addr} {xs : List Value} (h : w.ownsRow base e size (.slice ao n c) n xs) : n ≤ c ∧ (ao = none → c = 0) := by
  rcases h.2 with ⟨h1, h2⟩ | ⟨g, cap, cur, he, _, _, hc, _⟩
  · cases h1; exact ⟨by omega, fun _ => rfl⟩
  · cases he; exact ⟨hc, fun h => by cases h⟩

set_option maxHeartbeats 6400000 in
theorem tokens_any (p mb ab pl wt : Nat) (v : Value) (bs : List Nat) (B : Nat) (w : World) (h : Fin w B p mb ab pl wt v bs false 0) (hb : Bs bs) (hl : bs.length ≤ 30000) (hB : B ≤ w.heap.size) (hold : p < w.heap.size ∧ mb < w.heap.size ∧ ab < w.heap.size) :
    Calls Tryd.prog 16 #[.pointer (some ⟨p, 0, none⟩)] w (TokTo B bs w) := by
  obtain ⟨ao, c, rfl⟩ := by_shape h.by_
  have H0 : Hid (Tq w B p mb ab pl wt (.slice ao bs.length c) bs (kp bs 0) false [] (.slice none 0 0) w) := Lib.hid ⟨by rw [show kp bs 0 = 0 by unfold kp; omega]; exact h, ⟨rfl, .inl ⟨rfl, rfl⟩⟩, Below.refl _ _, hold.1, hold.2.1, hold.2.2, hB⟩
  obtain ⟨L, hL⟩ : ∃ L, L = bs.length := ⟨_, rfl⟩
  have HL := Lib.hid hL
  have HB := Lib.hid (And.intro hb hl)
  rw [← hL] at hl
  clear h hb hB hold hL
  go_enter Tryd.func16, Tryd.ntmps16
  go_wp2
  go_loopg [3, 4] (L + 1) (fun gm v3 v4 wr => ∃ (at_ k : Nat) (lo : Option Addr) (lc : Nat), at_ ≤ L ∧ L + 1 - at_ ≤ gm ∧ k ≤ at_ ∧ v3 = .slice lo k lc ∧ v4 = .int .i64 (at_ : Nat) ∧ Hid (∃ (r : List M.Tok) (cop : Bool), r.length = k ∧ Tq w B p mb ab pl wt (.slice ao bs.length c) bs (kp bs at_) cop r (.slice lo k lc) wr ∧ M.Sof bs at_ r cop))
  case atStart => exact ⟨0, 0, none, 0, Nat.zero_le _, Nat.le_refl _, Nat.le_refl _, rfl, rfl, Lib.hid ⟨[], false, rfl, H0.out, M.Sof.start bs⟩⟩
  case round =>
    clear H0
    obtain ⟨at_, k, lo, lc, ha, hgm, hka, rfl, rfl, HX⟩ := hrel
    obtain ⟨r, cop, hrk, hT, hS⟩ := HX.out
    have HT := Lib.hid hT
    have HS := Lib.hid hS
    have HRK := Lib.hid hrk
    have c2 := (hT.fin.blk.cell 2).trans (show _ = some (Value.slice ao bs.length c) from rfl)
    rw [← HL.out] at c2
    clear hrk hT hS HX
    by_cases hlt : at_ < L
    · have hlt' : (at_ : Int) < L := by omega
      go_wp2_with fail
      refine (tokenAt_any p mb ab pl wt _ bs cop B at_ wr HT.out.fin HB.out.1 HB.out.2 (by rw [← HL.out]; exact hlt)).mono ?_
      rintro e w2 ⟨⟨⟨tl, tL, tD⟩, rfl, htold⟩, hb2⟩
      have HT2 := Lib.hid ((HT.out.grow hb2).made ⟨tl, tL, tD⟩)
      have HTO := Lib.hid htold
      clear hb2 c2 HT htold
      obtain ⟨bt, hbt⟩ : ∃ bt, bt = w2.heap.size := ⟨_, rfl⟩
      rw [← hbt] at HT2
      go_wp2_with fail
      refine (keep_any p mb ab pl wt _ bs cop B at_ _ HT2.out.q.fin HB.out.1 HB.out.2 (by rw [← HL.out]; exact hlt)).mono ?_
      rintro e w3 ⟨rfl, hf3, ht3⟩
      have HT3 := Lib.hid (HT2.out.keep hf3 ht3)
      rw [← hbt]
      have x0 := (HT3.out.x.cell 0).trans (show _ = some (.int .u8 (tl : Nat)) from rfl)
      have x1 := (HT3.out.x.cell 1).trans (show _ = some (.int .i64 (tL : Nat)) from rfl)
      have x2 := (HT3.out.x.cell 2).trans (show _ = some (.int .i64 (tD : Nat)) from rfl)
      have htL : tL ≤ 258 ∧ (0 < tL → at_ + 1 < L) := by
        rcases HTO.out.is with h1 | ⟨_, h3, h4, h5⟩
        · have : tL = 0 := congrArg M.Tok.len h1
          omega
        · have h6 := h5.2.2.2.1
          rw [← HL.out] at h6
          simp only at h3 h4 h6
          omega
      clear hf3 ht3 HT2 hbt
      go_wp2_with fail
      refine (givesWay_any p mb ab pl wt tl tL tD _ bs cop B at_ w3 HT3.out.q.fin HB.out.1 HB.out.2 (by rw [← HL.out]; exact htL.2) (by omega) htL.1).mono ?_
      rintro e w4 ⟨⟨cg, rfl, hcg⟩, hb4⟩
      have HT4 := Lib.hid (HT3.out.grow hb4)
      have HCG := Lib.hid hcg
      clear hb4 HT3 x0 x1 x2 hcg htL
      go_upto_if 23 with fail
      go_cut [] from 7 to 61 (fun wx => ∃ t : M.Tok, Hid (Tt w B p mb ab pl wt (.slice ao bs.length c) bs (kp bs (at_ + 1)) cop r (.slice lo k lc) bt t wx) ∧ Hid (M.Told bs at_ cop t))
      case first =>
        cases cg with
        | false =>
          go_wp2
          go_meet
          case rel => exact ⟨_, HT4, HTO⟩
        | true =>
          obtain ⟨bk, off, rfl, k1⟩ := by_cell HT4.out.q.fin.by_ at_ (by rw [← HL.out]; exact hlt)
          have c2 := (HT4.out.q.fin.blk.cell 2).trans (show _ = some (Value.slice (some ⟨bk, off, none⟩) bs.length c) from rfl)
          rw [← HL.out] at c2
          obtain ⟨y, hy⟩ : ∃ y, y = bs.getD at_ 0 := ⟨_, rfl⟩
          rw [← hy] at k1
          have HY := Lib.hid hy
          have x0 := (HT4.out.x.cell 0).trans (show _ = some (.int .u8 (tl : Nat)) from rfl)
          have x1 := (HT4.out.x.cell 1).trans (show _ = some (.int .i64 (tL : Nat)) from rfl)
          have x2 := (HT4.out.x.cell 2).trans (show _ = some (.int .i64 (tD : Nat)) from rfl)
          have f0 := HT4.out.x.free 0
          have f1 := HT4.out.x.free 1
          have f2 := HT4.out.x.free 2
          clear hy
          go_wp2
          go_meet
          case rel => exact ⟨⟨y, 0, 0⟩, Lib.hid (HT4.out.set ⟨y, 0, 0⟩), Lib.hid (by rw [HY.out]; exact M.Told.lit (by simpa using HCG.out))⟩
      case rest =>
      clear HT4 HTO HCG
      obtain ⟨⟨sl, sL, sD⟩, HT5, HTO⟩ := hcut
      have x0 := (HT5.out.x.cell 0).trans (show _ = some (.int .u8 (sl : Nat)) from rfl)
      have x1 := (HT5.out.x.cell 1).trans (show _ = some (.int .i64 (sL : Nat)) from rfl)
      have x2 := (HT5.out.x.cell 2).trans (show _ = some (.int .i64 (sD : Nat)) from rfl)
      have HTL : Hid (at_ + M.tells ⟨sl, sL, sD⟩ ≤ L ∧ M.tells ⟨sl, sL, sD⟩ ≤ 258) := Lib.hid (by have := HTO.out.tells (by rw [← HL.out]; exact hlt); rwa [← HL.out] at this)
      have hsL : sL ≤ 258 := by have := HTL.out.2; unfold M.tells at this; simp only at this; omega
      have HOWN : Hid (wc.ownsRow w.heap.size 34 3 (.slice lo k lc) k (tcl r)) := Lib.hid (by have := HT5.out.q.own; rwa [HRK.out] at this)
      have hsz : w.heap.size ≤ wc.heap.size := by
        have := HT5.out.q.old.1
        have h1 := HT5.out.x.lt
        have h2 := HT5.out.new
        omega
      have HAPP : Hid (∀ ao2 cc2 w5, Apg (wc.alloc (.cells #[.int .u8 (sl : Nat), .int .i64 (sL : Nat), .int .i64 (sD : Nat)] 34)) w.heap.size 34 3 (.slice lo k lc) (k + 1) (tcl r ++ tcl [⟨sl, sL, sD⟩]) (.slice ao2 (k + 1) cc2) w5 → Tt w B p mb ab pl wt (.slice ao bs.length c) bs (kp bs (at_ + 1)) cop (r ++ [⟨sl, sL, sD⟩]) (.slice ao2 (k + 1) cc2) bt ⟨sl, sL, sD⟩ w5) := Lib.hid fun ao2 cc2 w5 hA => HT5.out.app hA (by rw [HRK.out])
      go_upto_region 9 with (refine wpList_append_g at_tok rfl (.tmp 32) (.tmp 34) rfl w.heap.size (.slice lo k lc) (.slice (some ⟨wc.heap.size, 0, none⟩) 1 1) k 1 (tcl r) (tcl [⟨sl, sL, sD⟩]) rfl rfl (World.ownsRow.alloc (w := wc) HOWN.out _) (cells_three wc 34 _ _ _) rfl (tcl_one _) (by simp; omega) (by omega) (by omega) ?_; intro ao2 cc2 w6 hA; have HT6 := Lib.hid (HAPP.out ao2 cc2 w6 hA); clear hA)
      have c5 := (HT6.out.q.fin.blk.cell 5).trans (show _ = some (Value.bool cop) from rfl)
      have f5 := HT6.out.q.fin.blk.free 5
      have z1 := (HT6.out.x.cell 1).trans (show _ = some (.int .i64 (sL : Nat)) from rfl)
      clear HT5 HAPP HOWN x0 x1 x2 hsz
      go_cut [] from 7 to 61 (fun wx => Hid (Tt w B p mb ab pl wt (.slice ao bs.length c) bs (kp bs (at_ + 1)) (cop || decide (0 < sL)) (r ++ [⟨sl, sL, sD⟩]) (.slice ao2 (k + 1) cc2) bt ⟨sl, sL, sD⟩ wx))
      case first =>
        cases cop with
        | true =>
          go_wp2
          go_meet
          case rel => exact Lib.hid (HT6.out.copy true)
        | false =>
          go_wp2
          go_meet
          case rel => exact Lib.hid (by have := HT6.out.copy (decide (0 < sL)); simpa using this)
      case rest =>
      have HT7 := hcut
      clear hcut HT6 c5 f5 z1
      obtain ⟨T, hTe⟩ : ∃ T, T = M.tells ⟨sl, sL, sD⟩ := ⟨_, rfl⟩
      rw [← hTe] at HTL
      have HTE := Lib.hid hTe
      have hT1 : 1 ≤ T := by rw [hTe]; exact M.tells_pos _
      have hTb := HTL.out
      have HSO : Hid (M.Sof bs (at_ + T) (r ++ [⟨sl, sL, sD⟩]) (cop || decide (0 < sL))) := Lib.hid (by
        rw [hTe]
        exact HS.out.step HB.out.1 HTO.out (by rw [← HL.out]; exact hlt))
      have y0 := (HT7.out.x.cell 0).trans (show _ = some (.int .u8 (sl : Nat)) from rfl)
      have y1 := (HT7.out.x.cell 1).trans (show _ = some (.int .i64 (sL : Nat)) from rfl)
      have y2 := (HT7.out.x.cell 2).trans (show _ = some (.int .i64 (sD : Nat)) from rfl)
      clear hTe HTL HS HTO
      go_wp2_with fail
      refine (span_any ⟨sl, sL, sD⟩ _ (by simp only; omega)).mono ?_
      rintro e w8 ⟨rfl, hb8⟩
      rw [← HTE.out]
      have HT8 := Lib.hid (HT7.out.grow hb8).q
      obtain ⟨be, hbe⟩ : ∃ be, be = at_ + T := ⟨_, rfl⟩
      have e1 : IntKind.i64.wrap ((at_ : Int) + T) = (be : Int) := by rw [IntKind.wrap_i64]; omega
      have e2 : (at_ : Int) + T = (be : Int) := by omega
      rw [← hbe] at HSO hTb
      have hbe2 : at_ + 1 ≤ be := by omega
      generalize (cop || decide (0 < sL)) = cop2 at HT7 HT8 HSO
      clear hb8 HT7 y0 y1 y2 HTE hbe hT1
      go_wp2
      go_loopg [4] (be + 1) (fun gm v4 wr2 => ∃ a2 : Nat, at_ + 1 ≤ a2 ∧ a2 ≤ be ∧ be + 1 - a2 ≤ gm ∧ v4 = .int .i64 (a2 : Nat) ∧ Hid (Tq w B p mb ab pl wt (.slice ao bs.length c) bs (kp bs a2) cop2 (r ++ [⟨sl, sL, sD⟩]) (.slice ao2 (k + 1) cc2) wr2))
      case atStart => exact ⟨at_ + 1, Nat.le_refl _, hbe2, by omega, by simp, HT8⟩
      case round =>
        clear HT8 e1 e2
        obtain ⟨a2, h1, h2, hgb, rfl, HT9⟩ := hrel
        by_cases hab : a2 < be
        · have hab' : (a2 : Int) < be := by omega
          go_wp2_with fail
          refine (keep_any p mb ab pl wt _ bs cop2 B a2 _ HT9.out.fin HB.out.1 HB.out.2 (by rw [← HL.out]; omega)).mono ?_
          rintro e w3 ⟨rfl, hf3, ht3⟩
          have HT10 := Lib.hid (HT9.out.keep hf3 ht3)
          clear hf3 ht3 HT9
          go_wp2
          go_roundg (be + 1 - (a2 + 1))
          case measure => omega
          case rel => exact ⟨a2 + 1, by omega, by omega, Nat.le_refl _, by simp, HT10⟩
        · obtain rfl : a2 = be := by omega
          go_wp2
          go_roundg (L + 1 - a2)
          case measure => omega
          case rel => exact ⟨a2, k + 1, ao2, cc2, by omega, Nat.le_refl _, by omega, by simp, rfl, Lib.hid ⟨_, cop2, by rw [List.length_append, List.length_singleton, HRK.out], HT9.out, HSO.out⟩⟩
    · obtain rfl : at_ = L := by omega
      go_wp2
      go_ret
      have hk := HRK.out
      subst hk
      exact ⟨lo, lc, r, rfl, own_ks HT.out.own rfl, HT.out.below, own_cap HT.out.own, (HS.out.done (by rw [HL.out]; exact Nat.le_refl _)).1, HS.out.lit, (HS.out.done (by rw [HL.out]; exact Nat.le_refl _)).2⟩
end Go.Proofs.YtjjjchdocnoabaaDoor
