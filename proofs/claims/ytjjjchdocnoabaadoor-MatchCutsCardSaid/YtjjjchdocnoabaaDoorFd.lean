/-
  tokenAt: the token at a place.
-/
import Derived.Test.YtjjjchdocnoabaaDoorFb
import Derived.Test.YtjjjchdocnoabaaDoorFc
import Derived.Test.YtjjjchdocnoabaaDoorKd
namespace Go.Proofs.YtjjjchdocnoabaaDoor
open Go.RowKit Go.Maps
set_option maxRecDepth 100000

theorem tk_told {bs : List Nat} {at_ most left L D : Nat} {cop : Bool} {pl : Int} (h : M.Lk bs at_ most cop pl left L D) (hm : most = min 258 (bs.length - at_)) (ha : at_ ≤ 30000) (hend : left = 0 ∨ most ≤ L ∨ pl = -1) :
    M.Told bs at_ cop (if worth cop L D then ⟨0, L, D⟩ else ⟨bs.getD at_ 0, 0, 0⟩) := by
  by_cases hw : worth cop L D = true
  · rw [if_pos hw]
    have hL : 3 ≤ L := by
      unfold worth at hw
      simp at hw
      omega
    refine ⟨.inr ⟨rfl, hL, ?_, ?_⟩, fun _ h0 => ?_⟩
    · have := h.le; show L ≤ 258; omega
    · rcases h.best with ⟨h0, _⟩ | h0
      · omega
      · exact h0
    · simp only at h0; omega
  · rw [if_neg hw]
    refine ⟨.inl rfl, fun hc _ => h.done hc hm (by omega) hend ?_⟩
    unfold worth at hw
    simp at hw
    omega
/-- While places are looked at: the finder, and the best copy in memory. -/
structure Tk (w : World) (B p mb ab pl wt : Nat) (bv : Value) (bs : List Nat) (cop : Bool) (n bx b4 L D : Nat) (wr : World) : Prop where
  fin : Fin wr B p mb ab pl wt bv bs cop n
  below : Below w.heap.size w wr
  best : Blk wr bx 34 #[.int .u8 0, .int .i64 (L : Nat), .int .i64 (D : Nat)]
  ans : Blk wr b4 34 #[.int .u8 0, .int .i64 0, .int .i64 0]
  new : w.heap.size ≤ bx ∧ w.heap.size ≤ b4 ∧ bx ≠ b4
theorem Tk.drewN {w : World} {B p mb ab pl wt : Nat} {bv : Value} {bs : List Nat} {cop : Bool} {n bx b4 L D : Nat} {wr : World} (h : Tk w B p mb ab pl wt bv bs cop n bx b4 L D wr) (q : Nat) : Tk w B p mb ab pl wt bv bs cop n bx b4 L D (wr.drewN q) :=
  ⟨h.fin.drewN q, below_drewN h.below q, h.best.drewN q, h.ans.drewN q, h.new⟩
abbrev set3 (w : World) (g : Nat) (a b c : Value) : World := ((w.setCell ⟨g, 0, none⟩ a).setCell ⟨g, 1, none⟩ b).setCell ⟨g, 2, none⟩ c
theorem blk_set3 {w : World} {g : Nat} {t : TypeId} {x y z : Value} (h : Blk w g t #[x, y, z]) (a b c : Value) : Blk (set3 w g a b c) g t #[a, b, c] := by
  have := ((h.setCell 0 a).setCell 1 b).setCell 2 c
  simpa using this
theorem touch_set3 (w : World) (g : Nat) (a b c : Value) : Touch (fun k => k = g) w (set3 w g a b c) :=
  (((Touch.refl (fun k => k = g) w).setCell ⟨g, 0, none⟩ a (.inl rfl)).setCell ⟨g, 1, none⟩ b (.inl rfl)).setCell ⟨g, 2, none⟩ c (.inl rfl)
theorem Touch.cellAt {S : Nat → Prop} {w w' : World} (h : Touch S w w') {a : Addr} {v : Value} (hc : w.cell? a = some v) (hs : ¬ S a.block) : w'.cell? a = some v := by
  rw [World.cell?_of_block (w := w) (h.block _ (World.block_lt_of_cell? w _ hc) hs)]
  exact hc
theorem res21 {t : Array Value} {W : World} {q : Nat} {x0 x1 x2 : Value} (h4 : t[4]? = some (.pointer (some ⟨q, 0, none⟩))) (h : Blk W q 34 #[x0, x1, x2]) :
    (results Tryd.f21 t).run Tryd.prog W = .ok (.agg #[x0, x1, x2]) W := by
  have e0 := (h.cell 0).trans (show _ = some x0 from rfl)
  have e1 := (h.cell 1).trans (show _ = some x1 from rfl)
  have e2 := (h.cell 2).trans (show _ = some x2 from rfl)
  simp [results, Tryd.results21, h4, go_sem, e0, e1, e2]
theorem Fin.low {w w' : World} {S : Nat → Prop} {B p mb ab pl wt : Nat} {bv : Value} {bs : List Nat} {cop : Bool} {n : Nat} (_h : Fin w B p mb ab pl wt bv bs cop n) {w0 : World} (h0 : Fin w0 B p mb ab pl wt bv bs cop n) (hb : Below w0.heap.size w0 w) (ht : Touch S w w') (hS : ∀ k, S k → w0.heap.size ≤ k) : Fin w' B p mb ab pl wt bv bs cop n :=
  h0.grow (hb.trans (ht.below hb.size hS))
theorem Tk.setBest {w : World} {B p mb ab pl wt : Nat} {bv : Value} {bs : List Nat} {cop : Bool} {n bx b4 L D : Nat} {wr : World} (h0 : Fin w B p mb ab pl wt bv bs cop n) (h : Tk w B p mb ab pl wt bv bs cop n bx b4 L D wr) (L' D' : Nat) :
    Tk w B p mb ab pl wt bv bs cop n bx b4 L' D' (set3 wr bx (.int .u8 0) (.int .i64 (L' : Nat)) (.int .i64 (D' : Nat))) := by
  have ht := touch_set3 wr bx (.int .u8 0) (.int .i64 (L' : Nat)) (.int .i64 (D' : Nat))
  have hn := h.new
  exact ⟨h.fin.low h0 h.below ht fun k hk => by omega, h.below.trans (ht.below h.below.size fun k hk => by omega), blk_set3 h.best _ _ _, h.ans.touch ht (by omega), hn⟩
theorem Tk.grow {w : World} {B p mb ab pl wt : Nat} {bv : Value} {bs : List Nat} {cop : Bool} {n bx b4 L D : Nat} {wr w' : World} (h : Tk w B p mb ab pl wt bv bs cop n bx b4 L D wr) (hb : Below wr.heap.size wr w') : Tk w B p mb ab pl wt bv bs cop n bx b4 L D w' :=
  ⟨h.fin.grow hb, bel_on h.below hb, h.best.below hb, h.ans.below hb, h.new⟩

set_option maxHeartbeats 6400000 in
theorem tokenAt_some (p mb ab pl wt : Nat) (ao : Option Addr) (c : Nat) (bs : List Nat) (cop : Bool) (B n at_ : Nat) (w : World) (h0 : Fin w B p mb ab pl wt (.slice ao bs.length c) bs cop n) (hn : at_ + 3 ≤ bs.length → n = at_) (hb : Bs bs) (hl : bs.length ≤ 30000) (ha : at_ < bs.length) :
    Calls Tryd.prog 21 #[.pointer (some ⟨p, 0, none⟩), .int .i64 at_] w fun e w' => (∃ t, e = .returned (tv t) ∧ M.Told bs at_ cop t) ∧ Below w.heap.size w w' := by
  obtain ⟨L, hL⟩ : ∃ L, L = bs.length := ⟨_, rfl⟩
  obtain ⟨mo, hmo⟩ : ∃ mo, mo = min 258 (L - at_) := ⟨_, rfl⟩
  have e0 : IntKind.i64.wrap ((L : Int) - at_) = ((L - at_ : Nat) : Int) := by rw [IntKind.wrap_i64]; omega
  have HCM := Lib.hid (show min (258 : Int) ((L - at_ : Nat) : Int) = (mo : Int) by omega)
  have hsz := h0.blk.lt
  have b4 := Blk.made w 34 #[.int .u8 0, .int .i64 0, .int .i64 0]
  have hb4 : Below w.heap.size w (w.alloc (.cells #[.int .u8 0, .int .i64 0, .int .i64 0] 34)) := (Below.refl _ _).alloc (Nat.le_refl _) _
  have F4 := h0.grow hb4
  have c2 := (F4.blk.cell 2).trans (show _ = some (Value.slice ao bs.length c) from rfl)
  rw [← hL] at c2
  go_enter Tryd.func21, Tryd.ntmps21
  go_upto_region 1 with fail
  go_cut [5] from 18 (fun s5 wx => s5 = .int .i64 (mo : Nat) ∧ wx = w.alloc (.cells #[.int .u8 0, .int .i64 0, .int .i64 0] 34))
  case first =>
    have hcm := HCM.out
    go_wp2
    all_goals
      go_meet
      case rel => exact ⟨by first | rfl | (congr 1; omega), rfl⟩
  case rest =>
  obtain ⟨rfl, rfl⟩ := hcut
  have HF := Lib.hid h0
  have HT0 : Hid (Tk w B p mb ab pl wt (.slice ao bs.length c) bs cop n (w.alloc (.cells #[.int .u8 0, .int .i64 0, .int .i64 0] 34)).heap.size w.heap.size 0 0 ((w.alloc (.cells #[.int .u8 0, .int .i64 0, .int .i64 0] 34)).alloc (.cells #[.int .u8 0, .int .i64 0, .int .i64 0] 34))) := Lib.hid (by
    have h1 := hb4.alloc hb4.size (.cells #[.int .u8 0, .int .i64 0, .int .i64 0] 34)
    have hs1 := asize w (.cells #[.int .u8 0, .int .i64 0, .int .i64 0] 34)
    exact ⟨h0.grow h1, h1, Blk.made _ _ _, b4.below ((Below.refl _ _).alloc (Nat.le_refl _) _), by omega, Nat.le_refl _, by omega⟩)
  have HS := Lib.hid hmo
  have HLL := Lib.hid hL
  have hl2 : L ≤ 30000 := by omega
  have ha2 : at_ < L := by omega
  have hmob : mo ≤ 258 ∧ at_ + mo ≤ L := by omega
  have HB := Lib.hid (And.intro hb (And.intro hl (And.intro ha hn)))
  clear b4 F4 hsz h0 hmo hL hb hl ha hn
  generalize hW1 : w.alloc (.cells #[.int .u8 0, .int .i64 0, .int .i64 0] 34) = W1 at HT0 c2 hb4 ⊢
  clear hW1
  go_wp2_with fail
  have HT1 := HT0
  refine (lastAt_any p mb ab pl wt (.slice ao bs.length c) bs cop B at_ _ (fun h3 => by have := HT0.out.fin; rwa [HB.out.2.2.2 h3] at this) ((HT0.out.fin.blk.cell 2).trans rfl) HT0.out.fin.by_ HB.out.1 HB.out.2.1 (by have := HB.out.2.2.1; omega)).mono ?_
  rintro e w2 ⟨rfl, q1, rfl⟩
  have HT2 := Lib.hid (HT0.out.drewN q1)
  generalize (W1.alloc (.cells #[.int .u8 0, .int .i64 0, .int .i64 0] 34)).drewN q1 = W2 at HT2 ⊢
  have HQ := Lib.hid HT2.out.fin.nums
  clear HT0 HT1
  go_wp2_with fail
  refine (places_any p pl cop _ ((HT2.out.fin.blk.cell 0).trans rfl) ((HT2.out.fin.blk.cell 5).trans rfl)).mono ?_
  rintro e w3 ⟨rfl, rfl⟩
  have HNX := Lib.hid HT2.out.new
  generalize W1.heap.size = bx at HT2 HNX ⊢
  obtain ⟨LF, hLF⟩ : ∃ LF : Nat, LF = if cop then pl else 32768 := ⟨_, rfl⟩
  have hLF2 : LF ≤ 32768 := by rw [hLF]; have := HQ.out.1; split <;> omega
  have HK0 : Hid (M.Lk bs at_ mo cop (la bs at_) LF 0 0) := Lib.hid (by
    unfold la
    split
    · exact M.Lk.start fun hc => by rw [hLF, hc]; rfl
    · exact M.Lk.none (fun hc => by rw [hLF, hc]; rfl) (by omega))
  have HY0 : Hid (la bs at_ ≠ -1 → at_ + 3 ≤ bs.length) := Lib.hid (by unfold la; split <;> omega)
  obtain ⟨y0, hy0⟩ : ∃ y0, y0 = la bs at_ := ⟨_, rfl⟩
  rw [← hy0] at HK0 HY0 ⊢
  rw [← hLF]
  clear hLF hy0 HCM c2 hb4 HQ e0
  go_wp2
  go_loopg [7, 8] 32769 (fun gm v7 v8 wr => ∃ (pv : Int) (left Lb Db : Nat), left + 1 ≤ gm ∧ v7 = .int .i64 pv ∧ v8 = .int .i64 (left : Nat) ∧ Hid ((left ≤ 32768 ∧ (pv ≠ -1 → at_ + 3 ≤ bs.length)) ∧ M.Lk bs at_ mo cop pv left Lb Db ∧ Tk w B p mb ab pl wt (.slice ao bs.length c) bs cop n bx w.heap.size Lb Db wr))
  case atStart => exact ⟨y0, LF, 0, 0, by omega, rfl, rfl, Lib.hid ⟨⟨hLF2, HY0.out⟩, HK0.out, HT2.out⟩⟩
  case round =>
    clear HK0 HT2 HY0
    obtain ⟨pv, left, Lb, Db, hgm, rfl, rfl, HR⟩ := hrel
    have hlb := HR.out.1.1
    have x1 := (HR.out.2.2.best.cell 1).trans (show _ = some (.int .i64 (Lb : Nat)) from rfl)
    by_cases hgo : 0 < left ∧ Lb < mo ∧ pv ≠ -1
    · obtain ⟨g1, g2, g3⟩ := hgo
      obtain ⟨pp, rfl⟩ : ∃ pp : Nat, pv = (pp : Int) := ⟨pv.toNat, by have := HR.out.2.1.low; omega⟩
      have hpa : pp < at_ := by have := HR.out.2.1.high; omega
      obtain ⟨left, rfl⟩ : ∃ l, left = l + 1 := ⟨left - 1, by omega⟩
      have h3 : at_ + 3 ≤ bs.length := HR.out.1.2 g3
      have h3L : at_ + 3 ≤ L := by rw [HLL.out]; exact h3
      obtain ⟨bk, off, rfl, k1⟩ := by_cell HR.out.2.2.fin.by_ (pp + Lb) (by rw [← HLL.out]; omega)
      obtain ⟨b2, off2, he, k2⟩ := by_cell HR.out.2.2.fin.by_ (at_ + Lb) (by rw [← HLL.out]; omega)
      simp only [Option.some.injEq, Addr.mk.injEq, and_true] at he
      obtain ⟨rfl, rfl⟩ := he
      have c2 := (HR.out.2.2.fin.blk.cell 2).trans (show _ = some (Value.slice (some ⟨bk, off, none⟩) bs.length c) from rfl)
      have c4 := (HR.out.2.2.fin.blk.cell 4).trans (show _ = some (Value.slice (some ⟨ab, 0, none⟩) bs.length bs.length) from rfl)
      rw [← HLL.out] at c2 c4
      obtain ⟨g, hg, hgv⟩ := HR.out.2.2.fin.ring
      have r1 := (hg.cell pp).trans (va_at _ _ pp (by rw [← HLL.out]; omega))
      rw [hgv pp (by rw [HB.out.2.2.2 h3]; exact hpa)] at r1
      obtain ⟨nx, hnx⟩ : ∃ nx, nx = M.pv bs (M.key3 bs pp) pp := ⟨_, rfl⟩
      rw [← hnx] at r1
      have hnxb : nx ≠ -1 → at_ + 3 ≤ bs.length := fun _ => h3
      have HNXB := Lib.hid hnxb
      have f0 := HR.out.2.2.best.free 0
      have f1 := HR.out.2.2.best.free 1
      have f2 := HR.out.2.2.best.free 2
      have x0 := (HR.out.2.2.best.cell 0).trans (show _ = some (.int .u8 0) from rfl)
      have x2 := (HR.out.2.2.best.cell 2).trans (show _ = some (.int .i64 (Db : Nat)) from rfl)
      obtain ⟨x, hx⟩ : ∃ x, x = bs.getD (pp + Lb) 0 := ⟨_, rfl⟩
      obtain ⟨y, hy⟩ : ∃ y, y = bs.getD (at_ + Lb) 0 := ⟨_, rfl⟩
      rw [← hx] at k1
      rw [← hy] at k2
      obtain ⟨dd, hdd⟩ : ∃ dd, dd = at_ - pp := ⟨_, rfl⟩
      have e1 : IntKind.i64.wrap ((pp : Int) + Lb) = (pp : Int) + Lb := by rw [IntKind.wrap_i64]; omega
      have e2 : IntKind.i64.wrap ((at_ : Int) + Lb) = (at_ : Int) + Lb := by rw [IntKind.wrap_i64]; omega
      have e3 : IntKind.i64.wrap ((at_ : Int) - pp) = (dd : Int) := by rw [IntKind.wrap_i64]; omega
      have e4 : (at_ : Int) - pp = (dd : Int) := by omega
      have l1 : (pp : Int) + Lb < L := by omega
      have l2 : (at_ : Int) + Lb < L := by omega
      have t1 : ((pp : Int) + Lb).toNat = pp + Lb := by omega
      have t2 : ((at_ : Int) + Lb).toNat = at_ + Lb := by omega
      have s1 : (0 : Int) ≤ (pp : Int) + Lb := by omega
      have s2 : (0 : Int) ≤ (at_ : Int) + Lb := by omega
      have u1 : (0 : Int) < ((left + 1 : Nat) : Int) := by omega
      have u2 : (Lb : Int) < mo := by omega
      have u3 : ((pp : Int) == -1) = false := by first | (simp; done) | (simp; omega)
      have u4 : (dd : Int) ≤ 32768 := by omega
      have u5 : IntKind.i64.wrap (((left + 1 : Nat) : Int) - 1) = (left : Int) := by rw [IntKind.wrap_i64]; omega
      have u6 : ((left + 1 : Nat) : Int) - 1 = (left : Int) := by omega
      have m1 : (pp : Int).tmod 32768 = (pp : Int) := by rw [Int.tmod_eq_emod_of_nonneg (by omega)]; omega
      have m2 : (pp : Int) % 32768 = (pp : Int) := by omega
      have i1 : (pp : Int) < L := by omega
      obtain ⟨lf, hlf⟩ : ∃ lf, lf = left + 1 := ⟨_, rfl⟩
      rw [← hlf] at u1 u5 u6 HR ⊢
      have HD := Lib.hid (And.intro hdd (And.intro hnx hlf))
      have HXY := Lib.hid (And.intro hx hy)
      have hddb : 1 ≤ dd ∧ dd ≤ at_ ∧ dd ≤ 30000 := by omega
      clear h3 hg hgv hnx hnxb hx hy hdd hlf g3
      by_cases hxy : x = y
      · subst hxy
        have dxy : ((x : Int) == x) = true := by simp
        obtain ⟨nn, hnn⟩ : ∃ nn, nn = M.same bs at_ dd mo := ⟨_, rfl⟩
        have HN := Lib.hid hnn
        have hnm : nn ≤ mo := by rw [hnn]; exact M.same_le bs dd mo at_
        have HC : ∀ W, (∃ q, W = wr.drewN q) → Calls Tryd.prog 14 #[.slice (some ⟨bk, off, none⟩) bs.length c, .int .i64 at_, .int .i64 dd, .int .i64 mo] W fun e w' => e = .returned (.int .i64 (nn : Nat)) ∧ ∃ m, w' = wr.drewN m := any_drew fun q => by
          rw [hnn]
          exact pSame_any (wr.drewN q) _ bs at_ dd mo (HR.out.2.2.drewN q).fin.by_ (by have := HB.out.2.1; omega) (by rw [← HLL.out]; exact ha2) hddb.1 hddb.2.1 (by omega)
        rw [← HLL.out] at HC
        have HC := Lib.hid HC
        clear hnn
        go_wp2
        go_quiet (fail)
        go_wp2_with fail
        refine (HC.out _ ?_).mono ?_
        · exact ⟨_, rfl⟩
        rintro e w3 ⟨rfl, q3, rfl⟩
        clear HC
        have HR3 := Lib.hid (HR.out.2.2.drewN q3)
        have HCP : Hid (M.Cop bs at_ nn dd) := Lib.hid (by
          rw [HN.out, HD.out.1]
          exact M.cop_same hpa (by have := HB.out.2.1; omega) (by have := HB.out.2.2.1; omega))
        have H4 : Hid (M.four bs at_ (at_ - pp) → 4 ≤ nn) := Lib.hid fun h4 => by
          have h5 := M.four_same h4 (most := mo) (by have := h4.1; have := HS.out; have := HLL.out; omega)
          rwa [← HD.out.1, ← HN.out] at h5
        by_cases hbt : Lb < nn
        · have v1 : (Lb : Int) < nn := by omega
          have HS3 := Lib.hid (HR3.out.setBest HF.out nn dd)
          have c4' := (HS3.out.fin.blk.cell 4).trans (show _ = some (Value.slice (some ⟨ab, 0, none⟩) bs.length bs.length) from rfl)
          rw [← HLL.out] at c4'
          have r1' := ((touch_set3 (wr.drewN q3) bx (.int .u8 0) (.int .i64 (nn : Nat)) (.int .i64 (dd : Nat)))).cellAt r1 (by have := HR3.out.new; have := HF.out.ring; obtain ⟨g, hg, _⟩ := this; have := hg.lt; show ¬ ab = bx; omega)
          go_wp2
          go_roundg (left + 1)
          case measure => omega
          case rel =>
            refine ⟨nx, left, nn, dd, Nat.le_refl _, rfl, rfl, Lib.hid ⟨⟨by omega, HNXB.out⟩, ?_, HS3.out⟩⟩
            have hk := HR.out.2.1
            rw [HD.out.2.2] at hk
            rw [HD.out.2.1]
            exact hk.next (by omega) hnm (.inr HCP.out) H4.out
        · have v1 : decide ((Lb : Int) < nn) = false := by simp; omega
          have v2 : decide (Lb < nn) = false := by simp; omega
          go_wp2
          go_roundg (left + 1)
          case measure => omega
          case rel =>
            refine ⟨nx, left, Lb, Db, Nat.le_refl _, rfl, rfl, Lib.hid ⟨⟨by omega, HNXB.out⟩, ?_, HR3.out⟩⟩
            have hk := HR.out.2.1
            rw [HD.out.2.2] at hk
            rw [HD.out.2.1]
            exact hk.next (Nat.le_refl _) hk.le hk.best (fun h4 => by have := H4.out h4; omega)
      · have dxy : ((x : Int) == y) = false := by simp; omega
        go_wp2
        go_quiet (fail)
        go_wp2
        have HNE : Hid (bs.getD (pp + Lb) 0 ≠ bs.getD (at_ + Lb) 0) := Lib.hid (by rw [← HXY.out.1, ← HXY.out.2]; exact hxy)
        go_roundg (left + 1)
        case measure => omega
        case rel =>
          refine ⟨nx, left, Lb, Db, Nat.le_refl _, rfl, rfl, Lib.hid ⟨⟨by omega, HNXB.out⟩, ?_, HR.out.2.2.drewN _⟩⟩
          have hk := HR.out.2.1
          rw [HD.out.2.2] at hk
          rw [HD.out.2.1]
          exact hk.next (Nat.le_refl _) hk.le hk.best (fun h4 => M.four_byte h4 hpa HNE.out)
    · have hend : left = 0 ∨ mo ≤ Lb ∨ pv = -1 := by omega
      have HTo := Lib.hid (tk_told HR.out.2.1 (by rw [← HLL.out]; exact HS.out) (by omega) hend)
      have hbd : Lb ≤ 1000000 ∧ Db ≤ 1000000 := by
        have := HR.out.2.1.le
        rcases HR.out.2.1.best with ⟨_, h⟩ | h
        · omega
        · have := h.2.2.1; omega
      have x0 := (HR.out.2.2.best.cell 0).trans (show _ = some (.int .u8 0) from rfl)
      have x2 := (HR.out.2.2.best.cell 2).trans (show _ = some (.int .i64 (Db : Nat)) from rfl)
      have hcs : (left = 0) ∨ (0 < left ∧ mo ≤ Lb) ∨ (0 < left ∧ Lb < mo ∧ pv = -1) := by omega
      clear hend hgo
      rcases hcs with rfl | ⟨q1, q2⟩ | ⟨q1, q2, rfl⟩
      all_goals first | (have q1' : (0 : Int) < left := by omega) | skip
      all_goals first | (have q2' : decide ((Lb : Int) < mo) = false := by simp; omega) | (have q2'' : (Lb : Int) < mo := by omega) | skip
      all_goals first | (have q3' : decide (Lb < mo) = false := by simp; omega) | skip
      all_goals
        go_wp2_with fail
        refine (isWorth_any p 0 Lb Db cop wr ((HR.out.2.2.fin.blk.cell 5).trans rfl) HR.out.2.2.fin.blk.lt hbd.1 hbd.2).mono ?_
        rintro e w5 ⟨rfl, hb5⟩
        have HR5 := Lib.hid (HR.out.2.2.grow hb5)
        clear hb5 x0 x1 x2
        have x0 := (HR5.out.best.cell 0).trans (show _ = some (.int .u8 0) from rfl)
        have x1 := (HR5.out.best.cell 1).trans (show _ = some (.int .i64 (Lb : Nat)) from rfl)
        have x2 := (HR5.out.best.cell 2).trans (show _ = some (.int .i64 (Db : Nat)) from rfl)
        have z0 := (HR5.out.ans.cell 0).trans (show _ = some (.int .u8 0) from rfl)
        have z1 := (HR5.out.ans.cell 1).trans (show _ = some (.int .i64 0) from rfl)
        have z2 := (HR5.out.ans.cell 2).trans (show _ = some (.int .i64 0) from rfl)
        have f0 := HR5.out.ans.free 0
        have f1 := HR5.out.ans.free 1
        have f2 := HR5.out.ans.free 2
        obtain ⟨bk, off, rfl, k1⟩ := by_cell HR5.out.fin.by_ at_ (by rw [← HLL.out]; exact ha2)
        have c2 := (HR5.out.fin.blk.cell 2).trans (show _ = some (Value.slice (some ⟨bk, off, none⟩) bs.length c) from rfl)
        rw [← HLL.out] at c2
        have hai : (at_ : Int) < L := by omega
        have HBL : ∀ a b d, Below w.heap.size w (set3 w5 w.heap.size a b d) := fun a b d => HR5.out.below.trans ((touch_set3 w5 w.heap.size a b d).below HR5.out.below.size fun k hk => by omega)
        have HBL := Lib.hid HBL
        obtain ⟨x, hx⟩ : ∃ x, x = bs.getD at_ 0 := ⟨_, rfl⟩
        rw [← hx] at k1
        have HX := Lib.hid hx
        clear hx
        have HTo2 := HTo
        cases hw : worth cop Lb Db with
        | true =>
          rw [hw, if_pos rfl] at HTo2
          clear hw
          go_wp2
          refine bodyPost_ret (res21 rfl (blk_set3 HR5.out.ans _ _ _)) rfl ?_
          exact ⟨⟨_, rfl, HTo2.out⟩, HBL.out _ _ _⟩
        | false =>
          rw [hw, if_neg (by decide), ← HX.out] at HTo2
          clear hw
          go_wp2
          refine bodyPost_ret (res21 rfl (blk_set3 HR5.out.ans _ _ _)) rfl ?_
          exact ⟨⟨_, rfl, HTo2.out⟩, HBL.out _ _ _⟩
theorem tokenAt_any (p mb ab pl wt : Nat) (v : Value) (bs : List Nat) (cop : Bool) (B at_ : Nat) (w : World) (h : Fin w B p mb ab pl wt v bs cop (kp bs at_)) (hb : Bs bs) (hl : bs.length ≤ 30000) (ha : at_ < bs.length) :
    Calls Tryd.prog 21 #[.pointer (some ⟨p, 0, none⟩), .int .i64 at_] w fun e w' => (∃ t, e = .returned (tv t) ∧ M.Told bs at_ cop t) ∧ Below w.heap.size w w' := by
  have hby := h.by_
  obtain ⟨ao, c, rfl⟩ := by_shape hby
  exact tokenAt_some p mb ab pl wt ao c bs cop B _ at_ w h (fun h3 => by unfold kp; omega) hb hl ha
end Go.Proofs.YtjjjchdocnoabaaDoor
