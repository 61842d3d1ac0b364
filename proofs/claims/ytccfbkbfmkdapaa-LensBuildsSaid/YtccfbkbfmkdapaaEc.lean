/-
  Contract of lengthen.
-/
import Derived.Test.YtccfbkbfmkdapaaEb
namespace Go.Proofs.Ytccfbkbfmkdapaa
open Go.RowKit Go.Shelf

attribute [local go_sem] Oper.semAt_some

theorem beb_set {S : Nat → Prop} {n : Nat} (W : World) {g : Nat} (hg : S g) (i : Nat) (v : Value) : Beb S n W (W.setCell ⟨g, i, none⟩ v) :=
  ⟨rfl, rfl, rfl, by simp [World.setCell], fun k _ hs => Below.heap_setCell W ⟨g, i, none⟩ v k (fun e => hs (by rw [e]; exact hg))⟩
theorem ones_succ (r : List (Nat × Bool)) (i : Nat) (h : i < r.length) : ones r (i + 1) = ones r i + if (cn' r i).2 = true then 1 else 0 := by
  unfold ones
  rw [List.take_succ_eq_append_getElem h, List.countP_append]
  simp [List.countP_cons, cn', List.getD, h]

set_option maxRecDepth 100000 in
set_option maxHeartbeats 8000000 in
theorem lengthen_any (gl N : Nat) (bo : Option Addr) (cu g5 c5 k : Nat) (rs : Nat → Sv) (cs us : List Nat) (w : World)
    (hrow : ∀ j, j < k → w.cell? ⟨g5, j, none⟩ = some (sv (rs j))) (hrl : ∀ j, j < k → (rs j).2.1 = (row cs j).length ∧ (row cs j).length ≤ (rs j).2.2 ∧ CS w (rs j).1 (row cs j) ∧ ∀ b off, (rs j).1 = some ⟨b, off, none⟩ → b < w.heap.size ∧ b ≠ gl)
    (hg5 : g5 < w.heap.size) (hg5l : g5 ≠ gl) (hA : Blk w gl 3 (ia N fun _ => 0)) (hU : IS w bo (ints us)) (hub : ∀ b off, bo = some ⟨b, off, none⟩ → us ≠ [] → b < w.heap.size ∧ b ≠ gl)
    (hnd : us.Nodup) (hun : us.length = cs.length) (huN : ∀ u ∈ us, u < N) (hk1 : 1 ≤ k) (hk : k ≤ 15) (F : Fit cs (k - 1)) (hcl : cs.length ≤ 320) :
    Calls Try.prog 24 #[.slice (some ⟨gl, 0, none⟩) N N, .slice bo us.length cu, .slice (some ⟨g5, 0, none⟩) k c5] w fun e w' =>
      e = .returned (.tuple #[]) ∧ Blk w' gl 3 (ia N (LF us (la (top cs (k - 1))))) ∧ Touch (fun k => k = gl) w w' := by
  have HROW := Lib.hid hrow
  have HRL := Lib.hid hrl
  have HA := Lib.hid hA
  have HU := Lib.hid hU
  have HUB := Lib.hid hub
  have HND := Lib.hid hnd
  have HUN := Lib.hid huN
  have HF := Lib.hid F
  have h2 := F.two
  obtain ⟨un, hune⟩ : ∃ un, un = us.length := ⟨_, rfl⟩
  obtain ⟨u2, hu2⟩ : ∃ u2, u2 = 2 * un := ⟨_, rfl⟩
  obtain ⟨t0, ht0⟩ : ∃ t0, t0 = u2 - 2 := ⟨_, rfl⟩
  have e1 : IntKind.i64.wrap (2 * (un : Int)) = u2 := by rw [IntKind.wrap_i64]; omega
  have E2 := Lib.hid (show IntKind.i64.wrap ((u2 : Int) - 2) = t0 by rw [IntKind.wrap_i64]; omega)
  have e2 := E2.out
  have HT0 : Hid (t0 = stk cs (k - 1) 0) := Lib.hid (by rw [stk]; omega)
  have HUE := Lib.hid hune
  rw [← hune]
  clear hrow hrl hA hU hub hnd huN F hune hu2 ht0
  refine (callsIn_wide (n := 9)).1 ?_
  refine callsIn_of_wp_marks Try.func24 rfl trivial ?_ rfl
  simp only [Try.ntmps24, List.size_toArray, List.length_cons, List.length_nil, Nat.reduceAdd, Nat.reduceSub, Array.replicate_succ, Array.replicate_zero, List.push_toArray, List.append_toArray, List.nil_append, List.cons_append]
  gi_wp2_with (refine ⟨trivial, ?_⟩; gi_at_call 40; refine (callsIn_wide.2 (backward_any (some ⟨g5, 0, none⟩) k c5 _)).mono ?_; rintro e w' ⟨rfl, rfl⟩)
  clear e1 e2
  obtain ⟨bL, hbL⟩ : ∃ bL, bL = w.heap.size := ⟨_, rfl⟩
  have HBL := Lib.hid hbL
  have b1 := Blk.made w 22 #[.slice (some ⟨gl, 0, none⟩) N N]
  have b2 := Blk.made (w.alloc (.cells #[.slice (some ⟨gl, 0, none⟩) N N] 22)) 22 #[.slice bo un cu]
  have b3 := Blk.made ((w.alloc (.cells #[.slice (some ⟨gl, 0, none⟩) N N] 22)).alloc (.cells #[.slice bo un cu] 22)) 3 #[.int .i64 t0]
  have b4 := Blk.made (((w.alloc (.cells #[.slice (some ⟨gl, 0, none⟩) N N] 22)).alloc (.cells #[.slice bo un cu] 22)).alloc (.cells #[.int .i64 t0] 3)) 54 #[.slice (some ⟨g5, 0, none⟩) k c5]
  have tA : ∀ (W : World) (o : Obj), Touch (fun _ => False) W (W.alloc o) := fun W o => (Touch.refl _ W).alloc o
  have c1 := ((b1.touch (tA _ (.cells #[.slice bo un cu] 22)) (fun h => h)).touch (tA _ (.cells #[.int .i64 t0] 3)) (fun h => h)).touch (tA _ (.cells #[.slice (some ⟨g5, 0, none⟩) k c5] 54)) (fun h => h)
  have c2 := (b2.touch (tA _ (.cells #[.int .i64 t0] 3)) (fun h => h)).touch (tA _ (.cells #[.slice (some ⟨g5, 0, none⟩) k c5] 54)) (fun h => h)
  have c3 := b3.touch (tA _ (.cells #[.slice (some ⟨g5, 0, none⟩) k c5] 54)) (fun h => h)
  simp only [World.size_alloc, ← hbL] at c1 c2 c3 b4
  have TW : Touch (fun _ => False) w ((((w.alloc (.cells #[.slice (some ⟨gl, 0, none⟩) N N] 22)).alloc (.cells #[.slice bo un cu] 22)).alloc (.cells #[.int .i64 t0] 3)).alloc (.cells #[.slice (some ⟨g5, 0, none⟩) k c5] 54)) := (((tA _ _).trans (tA _ _)).trans (tA _ _)).trans (tA _ _)
  have hsz : ((((w.alloc (.cells #[.slice (some ⟨gl, 0, none⟩) N N] 22)).alloc (.cells #[.slice bo un cu] 22)).alloc (.cells #[.int .i64 t0] 3)).alloc (.cells #[.slice (some ⟨g5, 0, none⟩) k c5] 54)).heap.size = bL + 4 := by rw [hbL]; simp
  rw [← hbL]
  obtain ⟨W0, hW0⟩ : ∃ W0, (((w.alloc (.cells #[.slice (some ⟨gl, 0, none⟩) N N] 22)).alloc (.cells #[.slice bo un cu] 22)).alloc (.cells #[.int .i64 t0] 3)).alloc (.cells #[.slice (some ⟨g5, 0, none⟩) k c5] 54) = W0 := ⟨_, rfl⟩
  rw [hW0] at c1 c2 c3 b4 TW hsz ⊢
  clear hW0 b1 b2 b3 tA
  obtain ⟨nm, hnm⟩ : ∃ nm : Nm, nm = ⟨bL, bL + 1, bL + 1 + 1, gl, N, bo, cu, k, rs⟩ := ⟨_, rfl⟩
  have hgl := HA.out.lt
  have AP : Hid (Apart nm w us) := Lib.hid (by
    subst hnm
    exact ⟨hgl, ⟨by show w.heap.size ≤ bL; omega, by show w.heap.size ≤ bL + 1; omega, by show w.heap.size ≤ bL + 1 + 1; omega⟩, ⟨by show bL ≠ bL + 1 + 1; omega, by show bL + 1 ≠ bL + 1 + 1; omega⟩, fun b off e hne => HUB.out b off e hne, fun j b off hj e => (HRL.out j hj).2.2.2 b off e⟩)
  have hT2 : Touch (fun _ => False) w W0 := TW
  have hI0 : Lst nm w cs us t0 (fun _ => 0) W0 := by
    subst hnm
    refine ⟨c1, ?_, c3, HA.out.touch TW (fun h => h), HU.out.touch TW (fun _ _ _ _ h => h), fun j hj => (HRL.out j hj).2.2.1.touch TW (fun _ _ _ _ h => h), TW.mono (fun _ h => h.elim)⟩
    rw [← HUE.out]; exact c2
  refine over_law (by omega) (gf := 46) (lb := #[.pointer (some ⟨bL + 1 + 1 + 1, 0, none⟩)]) rfl (enters_of Try.func46 (by kernel_rfl) rfl)
    (back_stops (fun b => b = gl ∨ b = bL + 1 + 1) (9 - 1) (by omega) (bL + 1 + 1 + 1) g5 c5 k rs hk W0 (b4.cell 0) (by omega) (fun j hj => (World.cell?_of_block (TW.block g5 hg5 (fun h => h))).trans (HROW.out j hj)) (Nat.lt_of_lt_of_le hg5 TW.size) (by omega)) (fun h k => h.trans k) (beb_b (Nat.le_refl _)) (fun _ => rfl)
    (fun pre X => Lst nm w cs us (stk cs (k - 1) pre.length) (LF us (gl' cs (k - 1) pre.length)) X ∧ bL + 4 ≤ X.heap.size)
    (by rw [hsz]; exact OwnFrom.and (lst_own nm w cs us (fun pre => stk cs (k - 1) pre.length) (fun pre => LF us (gl' cs (k - 1) pre.length)) (bL + 4) (by omega)) (fun s A B row hs hg hr => Nat.le_trans hs hg.size))
    (by rw [HT0.out] at hI0
        have e : LF us (gl' cs (k - 1) 0) = fun _ => 0 := by funext s; unfold LF; simp [gl_zero]
        rw [List.length_nil, e]; exact ⟨hI0, by omega⟩)
    (fun x => { tmps := #[.slice (some ⟨gl, 0, none⟩) N N, .slice bo un cu, .slice (some ⟨g5, 0, none⟩) k c5, .pointer (some ⟨bL, 0, none⟩), .pointer (some ⟨bL + 1, 0, none⟩), undef, .pointer (some ⟨bL + 1 + 1, 0, none⟩), undef, sv x.2, undef, undef, undef, .slice bo un cu, .int .i64 un, .int .i64 u2, .int .i64 t0, .slice (some ⟨g5, 0, none⟩) k c5, .func (.func 46) #[] #[.pointer (some ⟨bL + 1 + 1 + 1, 0, none⟩)], .int .i64 (x.1 : Nat), sv x.2, undef, undef, undef, undef, undef, undef, undef, undef, undef, undef, undef, undef, undef, undef, undef, undef, undef, undef, undef, undef, undef, undef, undef, undef, undef, undef], defers := [] }) ?assign ?body ?done
  case assign =>
    rintro l ⟨q, x1, x2, x3⟩ X K hK
    have HKx := Lib.hid hK
    clear hK hbL hsz c1 c2 c3 b4 TW hT2 hI0
    simp only [encb, sv] at HKx ⊢
    gi_wp2
    exact HKx.out
  case body =>
    rintro l pre ⟨q, x1, x2, x3⟩ X ⟨hI, hXs⟩ hx
    have hp : pre.length < k := by
      have := (List.getElem?_eq_some_iff.1 hx).1
      rwa [bk_len] at this
    rw [bk_at k rs _ hp] at hx
    obtain ⟨p, hpe⟩ : ∃ p, p = pre.length := ⟨_, rfl⟩
    rw [← hpe] at hx hp hI
    obtain ⟨j, hj⟩ : ∃ j, j = k - 1 - p := ⟨_, rfl⟩
    rw [← hj] at hx
    have hx0 := Option.some.inj hx
    have hq0 : j = q := congrArg Prod.fst hx0
    have hx' : rs j = (x1, x2, x3) := congrArg Prod.snd hx0
    have hrj := HRL.out j (by omega)
    rw [hx'] at hrj
    obtain ⟨hr1, hr2, _, _⟩ := hrj
    simp only at hr1 hr2
    obtain ⟨r, hre⟩ : ∃ r, r = row cs j := ⟨_, rfl⟩
    obtain ⟨tk, htk⟩ : ∃ tk, tk = stk cs (k - 1) p := ⟨_, rfl⟩
    have htl : tk ≤ r.length := by rw [htk, hre, hj]; exact stk_le HF.out p (by omega)
    have hrs : r.length ≤ 640 := by rw [hre]; exact row_small cs hcl j
    have hone : ∀ i, i ≤ r.length → ones r i ≤ cs.length := fun i hi => by rw [hre] at hi ⊢; exact ones_row_le HF.out.up j i hi
    have HONE := Lib.hid hone
    have HMS : Hid (ones r tk = mss cs (k - 1) p) := Lib.hid (by rw [mss, ← htk, hre, hj])
    have HTK := Lib.hid htk
    have HRE := Lib.hid hre
    have HJ : Hid (j < k) := Lib.hid (by omega)
    have HXX := Lib.hid hx'
    have HPE := Lib.hid hpe
    have hcap : tk ≤ x3 := by rw [hre] at htl; omega
    rw [← htk] at hI
    obtain ⟨G, hG⟩ : ∃ G, G = gl' cs (k - 1) p := ⟨_, rfl⟩
    have hGle : ∀ i, G i ≤ 15 := fun i => by rw [hG]; exact Nat.le_trans (gl_le _ _ _ _) (by omega)
    have HGL := Lib.hid hGle
    have HG := Lib.hid hG
    rw [← hG] at hI
    have HI0 : Hid (Lst nm w cs us tk (LF us (fun u => G u + if u < 0 then 1 else 0)) X) := Lib.hid (by rw [LF_none]; exact hI)
    have hsl := slice_h56 x1 x2 x3 tk hcap
    have HNM := Lib.hid hnm
    have HSZ := Lib.hid hsz
    have g1 : X.cell? ⟨bL + 1 + 1, 0, none⟩ = some (.int .i64 tk) := by have := hI.T; rw [hnm] at this; exact (this.cell 0).trans rfl
    clear hx hx0 hx' hq0 hr1 hr2 hre htk hone hpe hj hG hGle hnm hsz hbL c1 c2 c3 b4 TW hT2 hI0 hI HT0 E2
    simp only [sv]
    gi_wp2
    gi_loopw [9, 24] (fun s9 s24 wr => ∃ i m : Nat, s9 = .int .i64 m ∧ s24 = .int .i64 i ∧ i ≤ tk ∧ m = ones r i ∧ Lst nm w cs us tk (LF us (fun u => G u + if u < m then 1 else 0)) wr ∧ KeepsFrom W0.heap.size X wr ∧ Beb (fun b => b = gl ∨ b = bL + 1 + 1) W0.heap.size X wr) (fun _ s24 _ => tk - (intOf s24).toNat)
    case atStart => exact ⟨0, 0, rfl, rfl, Nat.zero_le _, (ones_zero r).symm, HI0.out, KeepsFrom.refl _ _, Beb.refl _ _ _⟩
    case round =>
      obtain ⟨i, m, rfl, rfl, hi, hm, hL, hkf, hbb⟩ := hrel
      have HM := Lib.hid hm
      have HLL := Lib.hid hL
      have HKF := Lib.hid hkf
      have HBB := Lib.hid hbb
      have hwr : bL + 4 ≤ wr.heap.size := Nat.le_trans hXs hkf.size
      by_cases hlt : i < tk
      · have hlt' : (i : Int) < tk := by omega
        have hrow' := hL.rows j (by rw [HNM.out]; exact HJ.out)
        rw [HNM.out] at hrow'
        simp only [HXX.out] at hrow'
        rw [← HRE.out] at hrow'
        obtain ⟨b1, o1, rfl, q1, q2⟩ := hrow'.at (k := i) (by omega)
        obtain ⟨x, hx⟩ : ∃ x, x = cn' r i := ⟨_, rfl⟩
        have hos := ones_succ r i (by omega)
        rw [← hx] at q1 q2 hos
        obtain ⟨y1, y2⟩ := x
        simp only at q1 q2 hos
        have HOS := Lib.hid hos
        have hmn : y2 = true → m < us.length := fun e => by
          have h3 := HONE.out (i + 1) (by omega)
          rw [hos, e, ← hm] at h3
          simp at h3
          omega
        have HMN := Lib.hid hmn
        clear hos hmn hx hm hL hkf hbb hrow' HI0 HONE
        cases y2 with
        | false =>
          gi_wp2
          go_roundw
          case rel =>
            have h3 := HOS.out
            simp at h3
            exact ⟨i + 1, m, rfl, by go_num, by omega, by rw [h3]; exact HM.out, HLL.out.alloc _, HKF.out.trans ((KeepsOthers.alloc wr _).from _), HBB.out.trans (beb_alloc wr (by rw [HSZ.out]; exact hwr) _)⟩
          case measure => first | (simp [intOf]; done) | (simp [intOf]; omega)
        | true =>
          have hmu := HMN.out rfl
          gi_wp2
          have H1 := Lib.hid (HLL.out.alloc (.cells #[.int .i64 (y1 : Nat), .bool true] 77))
          have HF1 := Lib.hid (HKF.out.trans ((KeepsOthers.alloc wr (.cells #[.int .i64 (y1 : Nat), .bool true] 77)).from _))
          have HB1 := Lib.hid (HBB.out.trans (beb_alloc (S := fun b => b = gl ∨ b = bL + 1 + 1) (n := W0.heap.size) wr (by rw [HSZ.out]; exact hwr) (.cells #[.int .i64 (y1 : Nat), .bool true] 77)))
          have hw1 : bL + 4 ≤ (wr.alloc (.cells #[.int .i64 (y1 : Nat), .bool true] 77)).heap.size := by rw [World.size_alloc]; omega
          clear HLL HKF HBB q1 q2
          generalize wr.alloc (.cells #[.int .i64 (y1 : Nat), .bool true] 77) = W1 at H1 HF1 HB1 hw1 ⊢
          have k1 : W1.cell? ⟨bL, 0, none⟩ = some (.slice (some ⟨gl, 0, none⟩) N N) := by have := H1.out.L; rw [HNM.out] at this; exact (this.cell 0).trans rfl
          have k2 : W1.cell? ⟨bL + 1, 0, none⟩ = some (.slice bo us.length cu) := by have := H1.out.U; rw [HNM.out] at this; exact (this.cell 0).trans rfl
          have k2s : Hid (IS W1 bo (ints us)) := Lib.hid (by have := H1.out.us; rw [HNM.out] at this; exact this)
          obtain ⟨b2, o2, rfl, k3⟩ := k2s.out.nat hmu
          obtain ⟨u, hu⟩ : ∃ u, u = us.getD m 0 := ⟨_, rfl⟩
          have huN : u < N := by rw [hu]; refine HUN.out _ ?_; rw [List.getD_eq_getElem?_getD, List.getElem?_eq_getElem hmu]; exact List.getElem_mem hmu
          have HUU := Lib.hid hu
          rw [← hu] at k3
          clear hu
          have hA1 : Blk W1 gl 3 (ia N (LF us fun u => G u + if u < m then 1 else 0)) := by have := H1.out.A; rw [HNM.out] at this; exact this
          obtain ⟨fu, hfu⟩ : ∃ fu, fu = LF us (fun u => G u + if u < m then 1 else 0) u := ⟨_, rfl⟩
          have k4 := (hA1.cell u).trans (va_at N _ u huN)
          have k5 := hA1.free u
          rw [← hfu] at k4
          have hfl : fu ≤ 16 := by
            rw [hfu]; unfold LF
            split
            · have := HGL.out (us.idxOf u)
              show G (us.idxOf u) + (if us.idxOf u < m then 1 else 0) ≤ 16
              split <;> omega
            · omega
          have HFU := Lib.hid hfu
          have c1 : (m : Int) < us.length := by omega
          have c2 : (u : Int) < N := by omega
          have e1 : IntKind.i64.wrap ((fu : Int) + 1) = ((fu + 1 : Nat) : Int) := by rw [IntKind.wrap_i64]; omega
          obtain ⟨f1, hf1⟩ : ∃ f1, f1 = fu + 1 := ⟨_, rfl⟩
          rw [← hf1] at e1
          have HF1' := Lib.hid hf1
          have hmix : Try.prog.follows .mixedOrders = true := by kernel_rfl
          have H2 : Hid (Lst nm w cs us tk (LF us (fun u => G u + if u < m + 1 then 1 else 0)) ((W1.setCell ⟨gl, u, none⟩ (.int .i64 (f1 : Nat))).drew)) := Lib.hid (by
            have hput : ∀ s, s < nm.N → LF us (fun u => G u + if u < m + 1 then 1 else 0) s = if s = u then f1 else LF us (fun u => G u + if u < m then 1 else 0) s := fun s _ => by
              rw [LF_put HND.out G hmu s, ← HUU.out, hf1, hfu]
              by_cases hs : s = u
              · rw [if_pos hs, if_pos hs, hs]
              · rw [if_neg hs, if_neg hs]
            have h := (H1.out.setA AP.out u f1 _ hput).drew
            rw [HNM.out] at h ⊢
            exact h)
          have HF2 : Hid (KeepsFrom W0.heap.size X ((W1.setCell ⟨gl, u, none⟩ (.int .i64 (f1 : Nat))).drew)) := Lib.hid (HF1.out.trans (((KeepsOthers.setCell W1 _ _).trans (KeepsOthers.drew _)).from _))
          have HB2 : Hid (Beb (fun b => b = gl ∨ b = bL + 1 + 1) W0.heap.size X ((W1.setCell ⟨gl, u, none⟩ (.int .i64 (f1 : Nat))).drew)) := Lib.hid (HB1.out.trans (beb_set W1 (.inl rfl) _ _).drew)
          clear hfu hf1 hA1 H1 HF1 HB1 hmu
          gi_region_with_o (fail)
          generalize (W1.setCell ⟨gl, u, none⟩ (.int .i64 (f1 : Nat))).drew = W2 at H2 HF2 HB2 ⊢
          all_goals
            gi_wp2
            go_roundw
            case rel =>
              have h3 := HOS.out
              simp at h3
              exact ⟨i + 1, m + 1, by go_num, by go_num, by omega, by rw [h3, ← HM.out], H2.out, HF2.out, HB2.out⟩
            case measure => first | (simp [intOf]; done) | (simp [intOf]; omega)
      · have hie : i = tk := by omega
        subst hie
        have q0 : wr.cell? ⟨bL + 1 + 1, 0, none⟩ = some (.int .i64 i) := by have := hL.T; rw [HNM.out] at this; exact (this.cell 0).trans rfl
        have q00 : wr.frozen? ⟨bL + 1 + 1, 0, none⟩ = false := by have := hL.T; rw [HNM.out] at this; exact this.free 0
        have hmi : m ≤ i := by rw [hm]; exact ones_le _ _
        obtain ⟨d1, hd1⟩ : ∃ d1, d1 = i - m := ⟨_, rfl⟩
        obtain ⟨d2, hd2⟩ : ∃ d2, d2 = 2 * d1 := ⟨_, rfl⟩
        have e1 : IntKind.i64.wrap ((i : Int) - m) = d1 := by rw [IntKind.wrap_i64]; omega
        have E2 := Lib.hid (show IntKind.i64.wrap (2 * (d1 : Int)) = d2 by rw [IntKind.wrap_i64]; omega)
        have e2 := E2.out
        have HDD := Lib.hid (And.intro hd1 hd2)
        clear hd1 hd2 hm hL hkf hbb
        gi_wp2
        have hms : m = mss cs (k - 1) p := by rw [← HMS.out]; exact HM.out
        have hst : d2 = stk cs (k - 1) (p + 1) := by
          rw [show stk cs (k - 1) (p + 1) = 2 * (stk cs (k - 1) p - mss cs (k - 1) p) from rfl, ← HTK.out, ← hms, HDD.out.2, HDD.out.1]
        have hLL : LF us (fun u => G u + if u < m then 1 else 0) = LF us (gl' cs (k - 1) (p + 1)) := by
          congr 1
          funext u
          rw [gl_succ, ← HG.out, ← hms]
        have hfin := HLL.out.setT AP.out d2
        have hbT : nm.bT = bL + 1 + 1 := by rw [HNM.out]
        rw [hbT, hLL, hst] at hfin
        refine ⟨HKF.out.trans ((KeepsOthers.setCell wr _ _).from _), HBB.out.trans (beb_set wr (.inr rfl) _ _), ?_⟩
        have hlen1 : (pre ++ [(q, x1, x2, x3)]).length = p + 1 := by rw [List.length_append, List.length_singleton, ← HPE.out]
        have hsz2 : bL + 4 ≤ (wr.setCell ⟨bL + 1 + 1, 0, none⟩ (.int .i64 (d2 : Nat))).heap.size := Nat.le_trans hwr (by simp [World.setCell])
        rw [← HPE.out, hst]
        rw [hst] at hsz2
        first | exact ⟨hfin, hsz2⟩ | exact hfin
  case done =>
    rintro D X hD ⟨hI, _⟩ hK
    rw [bk_len] at hI
    gi_wp2
    have hg := grownBy_putObj' X D (.deferred none)
    have hr : ∀ r, some D = some r → ∃ o : Obj, X.heap[r]? = some o ∧ o.isCells = false := fun r e => by cases e; exact ⟨_, hK, rfl⟩
    refine ⟨by simp, .inl ⟨_, _, rfl, run_takeDeferred hK, ?_⟩⟩
    have e : LF us (gl' cs (k - 1) k) = LF us (la (top cs (k - 1))) := by
      congr 1
      funext i
      rw [lev_mss, gl', show k - 1 + 1 = k by omega]
    have hA2 := blk_kept hI.A hg hr
    rw [e] at hA2
    subst hnm
    refine ⟨_, results_none rfl _ _ _, rfl, hA2, hI.tch.grown hg fun k e => ?_⟩
    cases e
    right; omega
end Go.Proofs.Ytccfbkbfmkdapaa
