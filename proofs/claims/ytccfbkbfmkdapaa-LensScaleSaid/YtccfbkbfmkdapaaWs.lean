/-
  The walk of LensScale.
-/
import Derived.Test.YtccfbkbfmkdapaaTe
namespace Go.Proofs.Ytccfbkbfmkdapaa
open Go.RowKit
set_option maxRecDepth 100000

theorem elem22 : Try.prog.elem 22 = 3 := by simp [Program.elem, Try.underlying22]
theorem ht22 : Try.prog.underlying 22 = some (.slice (Try.prog.elem 22)) := by rw [elem22]; exact Try.underlying22
theorem size3 (W : World) : (sizeOf 3).run Try.prog W = .ok 1 W := by
  obtain ⟨i0, hi, hz0, hz1, hz2⟩ := info_parts at22.info
  simp [sizeOf, typeInfo, hi, hz1]
def cut1 (ao : Option Addr) (c a : Nat) : Option Addr := if c = a then ao else ao.map (·.add (a * 1))
theorem slice1_22 (ao : Option Addr) (len c : Nat) (hab : 1 ≤ len) (W : World) :
    (Instr.slice 22 (.slice ao len c) (some (.int .i64 1)) none none).run Try.prog W = .ok (.slice (cut1 ao c 1) (len - 1) (c - 1)) W := by
  rw [run_slice_l W 22 ao len c ht22 .i64 _ (by omega) (by omega), elem22, size3]
  rfl
theorem IS.tail {w : World} {ao : Option Addr} {x : Int} {r : List Int} (h : IS w ao (x :: r)) (c : Nat) (hc : r.length + 1 ≤ c) : IS w (cut1 ao c 1) r := by
  rcases h with h | ⟨b, off, rfl, hr⟩
  · cases h
  · by_cases e : r = []
    · exact .inl e
    · refine .inr ⟨b, off + 1, ?_, fun j hj => ?_⟩
      · have : 0 < r.length := List.length_pos_iff.2 e
        unfold cut1
        rw [if_neg (by omega)]
        simp [Addr.add]
      · have := hr (j + 1) (by rw [List.length_cons]; omega)
        rw [List.getD_cons_succ] at this
        rwa [show off + (j + 1) = off + 1 + j by omega] at this

/-! ### Counts that are t times as great -/
theorem ints_mul (t : Nat) (ns : List Nat) : (ints ns).map (· * (t : Int)) = ints (ns.map (t * ·)) := by
  unfold ints
  rw [List.map_map, List.map_map]
  apply List.map_congr_left
  intro x _
  simp only [Function.comp]
  rw [Int.natCast_mul, Int.mul_comm]
theorem okn_mul {ns : List Nat} {lim t : Nat} (h : Okn ns lim) (hx : ∀ x ∈ ns, x ≤ 1073741824) (ht : 0 < t) (h100 : t ≤ 100) : Okn (ns.map (t * ·)) lim :=
  ⟨by rw [List.length_map]; exact h.len, fun y hy => by
    obtain ⟨x, hx', rfl⟩ := List.mem_map.1 hy
    have := Nat.mul_le_mul h100 (hx x hx')
    omega, by rw [nz_mul ht, List.length_map]; exact h.few, h.lim⟩
theorem no_bad {ns : List Nat} (hx : ∀ x ∈ ns, x ≤ 1099511627776) : anyBad 0 maxC (ints ns) = false := by
  unfold anyBad
  rw [List.any_eq_false]
  intro z hz hb
  obtain ⟨x, hx', rfl⟩ := List.mem_map.1 hz
  have := hx x hx'
  unfold maxC at hb
  rcases of_decide_eq_true hb with h1 | h1 <;> omega
theorem berr_mul {ns : List Nat} {t : Nat} (limit : Int) (hx : ∀ x ∈ ns, x ≤ 1073741824) (ht : 0 < t) (h100 : t ≤ 100) : berr (ints (ns.map (t * ·))) limit = berr (ints ns) limit := by
  have h1 : anyBad 0 maxC (ints ns) = false := no_bad fun x h => by have := hx x h; omega
  have h2 : anyBad 0 maxC (ints (ns.map (t * ·))) = false := no_bad fun y h => by
    obtain ⟨x, hx', rfl⟩ := List.mem_map.1 h
    have := Nat.mul_le_mul h100 (hx x hx')
    omega
  have e : Wrong (ints (ns.map (t * ·))) limit ↔ Wrong (ints ns) limit := by
    unfold Wrong
    rw [h1, h2, ints_len, ints_len, List.length_map]
  unfold berr
  rw [nat_ints, nat_ints, nz_mul ht, List.length_map]
  by_cases hw : Wrong (ints ns) limit
  · rw [if_pos hw, if_pos (e.2 hw)]
  · rw [if_neg hw, if_neg fun h => hw (e.1 h)]

theorem scale_a (ao : Option Addr) (c : Nat) (zs : List Int) (l m : Int) (w : World)  (_h : 300 < zs.length) :
    Calls Try.prog 6 #[.slice ao zs.length c, .int .i64 l, .int .i64 m] w fun e w' => e = .returned (.bool true) ∧ Below w.heap.size w w' := by
  have d0 : decide ((300 : Int) < zs.length) = true := decide_eq_true (by omega)
  go_enter Try.func6, Try.ntmps6
  go_wp2_with fail
  refine (alive_any w).mono ?_
  rintro e w1 ⟨rfl, hb1⟩
  have HB := Lib.hid hb1
  clear hb1
  go_wp2
  go_ret
  exact ⟨rfl, HB.out⟩
theorem scale_b (ao : Option Addr) (c : Nat) (zs : List Int) (l m : Int) (w : World) (_h0 : zs.length ≤ 300) (_h : m < 1) :
    Calls Try.prog 6 #[.slice ao zs.length c, .int .i64 l, .int .i64 m] w fun e w' => e = .returned (.bool true) ∧ Below w.heap.size w w' := by
  have d0 : decide ((300 : Int) < zs.length) = false := decide_eq_false (by omega)
  have d1 : decide (m < 1) = true := decide_eq_true (by omega)
  go_enter Try.func6, Try.ntmps6
  go_wp2_with fail
  refine (alive_any w).mono ?_
  rintro e w1 ⟨rfl, hb1⟩
  have HB := Lib.hid hb1
  clear hb1
  go_wp2
  go_ret
  exact ⟨rfl, HB.out⟩
theorem scale_c (ao : Option Addr) (c : Nat) (zs : List Int) (l m : Int) (w : World) (_h0 : zs.length ≤ 300) (_h1 : 1 ≤ m) (_h : 100 < m) :
    Calls Try.prog 6 #[.slice ao zs.length c, .int .i64 l, .int .i64 m] w fun e w' => e = .returned (.bool true) ∧ Below w.heap.size w w' := by
  have d0 : decide ((300 : Int) < zs.length) = false := decide_eq_false (by omega)
  have d1 : decide (m < 1) = false := decide_eq_false (by omega)
  have d2 : decide ((100 : Int) < m) = true := decide_eq_true (by omega)
  go_enter Try.func6, Try.ntmps6
  go_wp2_with fail
  refine (alive_any w).mono ?_
  rintro e w1 ⟨rfl, hb1⟩
  have HB := Lib.hid hb1
  clear hb1
  go_wp2
  go_ret
  exact ⟨rfl, HB.out⟩

/-- The first k counts are in bounds, and have been taken so many times. -/
structure Scd (w : World) (zs : List Int) (m : Int) (k : Nat) (v : Value) (wr : World) : Prop where
  ok : ∀ i, i < k → 0 ≤ zs.getD i 0 ∧ zs.getD i 0 ≤ 1073741824
  rn : Rn w ((zs.take k).map (· * m)) v wr
theorem take_next (zs : List Int) {k : Nat} (h : k < zs.length) : zs.take (k + 1) = zs.take k ++ [zs.getD k 0] := by
  rw [List.take_add_one]
  simp [List.getD, h]
theorem Scd.len {w wr : World} {zs : List Int} {m : Int} {k : Nat} {v : Value} (_h : Scd w zs m k v wr) (hk : k ≤ zs.length) : ((zs.take k).map (· * m)).length = k := by
  rw [List.length_map, List.length_take]; omega
theorem Scd.own {w wr : World} {zs : List Int} {m : Int} {k : Nat} {v : Value} (h : Scd w zs m k v wr) (hk : k ≤ zs.length) : wr.ownsRow w.heap.size 3 1 v k (iv ((zs.take k).map (· * m))) := by
  have e := h.rn.own
  rwa [h.len hk] at e
theorem Scd.all {w wr : World} {zs : List Int} {m : Int} {v : Value} (h : Scd w zs m zs.length v wr) : ∃ ns, zs = ints ns ∧ ∀ x ∈ ns, x ≤ 1073741824 := by
  have hz : ∀ z ∈ zs, 0 ≤ z ∧ z ≤ 1073741824 := fun z hz => by
    obtain ⟨i, hi, rfl⟩ := List.getElem_of_mem hz
    have := h.ok i hi
    simpa [List.getD, hi] using this
  refine ⟨nat zs, ?_, fun x hx => ?_⟩
  · unfold ints nat
    rw [List.map_map]
    conv => lhs; rw [← List.map_id zs]
    apply List.map_congr_left
    intro z hz'
    have := hz z hz'
    simp only [Function.comp, id]
    omega
  · obtain ⟨z, hz', rfl⟩ := List.mem_map.1 hx
    have := hz z hz'
    omega
theorem Scd.is {w wr : World} {ns : List Nat} {t : Nat} {bo : Option Addr} {cu : Nat} (h : Scd w (ints ns) t (ints ns).length (.slice bo ns.length cu) wr) : IS wr bo (ints (ns.map (t * ·))) := by
  have e := h.rn.own
  rw [List.take_length, ints_mul, ints_len, List.length_map] at e
  exact own_is e (by rw [ints_len, List.length_map])

/-- Both costs and what they are in the row's numbers. -/
theorem cst_room {ns us : List Nat} {lim : Nat} (ho : Okn ns lim) (hU : Used ns us) (hul : us.length ≤ 2 ^ lim) : cst ns (lens ns us lim) ns.length ≤ 320 * 16492674416640 := by
  have h1 := cst_le (ns := ns) (ls := lens ns us lim) ho.all (fun x hx => Nat.le_trans (lens_le hU ho.lim.1 hul x hx) ho.lim.2) ns.length
  exact Nat.le_trans h1 (Nat.mul_le_mul_right _ ho.len)

set_option maxHeartbeats 4000000 in
set_option maxRecDepth 100000 in
theorem scale_in (ao : Option Addr) (c : Nat) (zs : List Int) (l m : Int) (w : World) (h : IS w ao zs) (h1 : zs.length ≤ 300) (h2 : 1 ≤ m) (h3 : m ≤ 100) (hc : zs.length ≤ c) :
    Calls Try.prog 6 #[.slice ao zs.length c, .int .i64 l, .int .i64 m] w fun e w' => e = .returned (.bool true) ∧ Below w.heap.size w w' := by
  obtain ⟨n, hn⟩ : ∃ n, n = zs.length := ⟨_, rfl⟩
  rw [← hn] at h1 hc ⊢
  have d1 : decide ((300 : Int) < n) = false := decide_eq_false (by omega)
  have d2 : decide (m < 1) = false := decide_eq_false (by omega)
  have d3 : decide ((100 : Int) < m) = false := decide_eq_false (by omega)
  have HI := Lib.hid h
  have HN := Lib.hid hn
  clear h hn
  go_enter Try.func6, Try.ntmps6
  go_wp2_with fail
  refine (alive_any w).mono ?_
  rintro e w1 ⟨rfl, hb1⟩
  have H0 : Hid (Scd w1 zs m 0 (.slice (some ⟨w1.heap.size, 0, none⟩) (0 : Nat) 0) (w1.alloc (.cells #[] 3))) := Lib.hid ⟨fun i hi => absurd hi (Nat.not_lt_zero i), ⟨own_none w1 3 1, (Below.refl _ _).alloc (Nat.le_refl _) _⟩⟩
  have HB := Lib.hid hb1
  have HI1 := Lib.hid (HI.out.below hb1)
  clear hb1 HI
  go_wp2
  clear d1 d2 d3
  generalize w1.alloc (.cells #[] 3) = w2 at H0 ⊢
  generalize (⟨w1.heap.size, 0, none⟩ : Addr) = ad at H0 ⊢
  go_loopw [7, 8] (fun v7 kv wr => ∃ (k : Nat) (bo : Option Addr) (cu : Nat), v7 = .slice bo k cu ∧ kv = .int .i64 k ∧ k ≤ n ∧ Scd w1 zs m k (.slice bo k cu) wr) (fun _ kv _ => n - (intOf kv).toNat)
  case atStart => exact ⟨0, some ad, 0, rfl, rfl, Nat.zero_le _, H0.out⟩
  case round =>
    obtain ⟨k, bo, cu, rfl, rfl, hk, hR⟩ := hrel
    have HR := Lib.hid hR
    have HBW := Lib.hid (HB.out.trans (hR.rn.below.mono HB.out.size))
    have HIW := Lib.hid (HI1.out.below hR.rn.below)
    clear hR H0
    by_cases hlt : k < n
    · have hkk : (k : Int) < n := by omega
      obtain ⟨b1, o1, e1, q1⟩ := HIW.out.at (k := k) (by rw [← HN.out]; exact hlt)
      subst e1
      obtain ⟨z, hz⟩ : ∃ z, z = zs.getD k 0 := ⟨_, rfl⟩
      rw [← hz] at q1
      have HZ := Lib.hid hz
      clear hz
      by_cases hz0 : z < 0
      · have z1 : decide (z < 0) = true := decide_eq_true hz0
        clear hz0
        go_wp2
        go_ret
        exact ⟨rfl, HBW.out⟩
      · by_cases hz1 : 1073741824 < z
        · have z1 : decide (z < 0) = false := decide_eq_false hz0
          have z2 : decide ((1073741824 : Int) < z) = true := decide_eq_true hz1
          clear hz0 hz1
          go_wp2
          go_ret
          exact ⟨rfl, HBW.out⟩
        · have z1 : decide (z < 0) = false := decide_eq_false hz0
          have z2 : decide ((1073741824 : Int) < z) = false := decide_eq_false hz1
          have HZB : Hid (0 ≤ z ∧ z ≤ 1073741824) := Lib.hid (by omega)
          have hp1 : 0 ≤ z * m := Int.mul_nonneg (by omega) (by omega)
          have hp2 : z * m ≤ 1073741824 * 100 := Int.mul_le_mul (by omega) h3 (by omega) (by omega)
          have f1 : wrap64 (z * m) = z * m := by rw [wrap64]; omega
          obtain ⟨p, hp⟩ : ∃ p, p = z * m := ⟨_, rfl⟩
          rw [← hp] at f1 hp1 hp2
          have HP := Lib.hid hp
          have f2 : wrap64 (z * m) = p := by rw [HP.out] at f1 ⊢; exact f1
          clear hp hz0 hz1 f1 hp1 hp2
          go_wp2_with (refine wpList_append_g at22 rfl (.tmp 47) (.tmp 54) rfl w1.heap.size (.slice bo k cu) (.slice (some ⟨wr.heap.size, 0, none⟩) 1 1) k 1 (iv ((zs.take k).map (· * m))) [.int .i64 p] rfl rfl (World.ownsRow.alloc (w := wr) (HR.out.own (by rw [← HN.out]; exact hk)) _) (cells_1 wr 3 _) rfl (by simp [Value.oneCell']) (by have := HR.out.rn.below.size; simp; omega) (by omega) (by omega) ?_; intro ao2 cc2 w4 hA; have HA := Lib.hid hA; clear hA)
          go_roundw
          case rel =>
            have h1 := HR.out.rn.put (R := [p]) (n := k + 1) HA.out (by rw [HR.out.len (by rw [← HN.out]; exact hk)]; rfl)
            have e : (zs.take k).map (· * m) ++ [p] = (zs.take (k + 1)).map (· * m) := by
              rw [take_next zs (by rw [← HN.out]; exact hlt), List.map_append, ← HZ.out, HP.out]; rfl
            rw [e] at h1
            refine ⟨k + 1, ao2, cc2, rfl, by go_num, by omega, fun i hi => ?_, h1⟩
            rcases (show i < k ∨ i = k by omega) with h | rfl
            · exact HR.out.ok i h
            · rw [← HZ.out]; exact HZB.out
          case measure => simp [intOf]; omega
    · have hk' : k = n := by omega
      subst hk'
      obtain ⟨t, rfl⟩ : ∃ t : Nat, m = t := ⟨m.toNat, by omega⟩
      obtain ⟨ns, rfl, hx⟩ : ∃ ns, zs = ints ns ∧ ∀ x ∈ ns, x ≤ 1073741824 := by
        have h := HR.out
        rw [HN.out] at h
        exact h.all
      have HNN : Hid (k = ns.length) := Lib.hid (by rw [HN.out, ints_len])
      have HIM : Hid (IS wr bo (ints (ns.map (t * ·)))) := Lib.hid (by
        have h := HR.out
        rw [HN.out] at h
        rw [ints_len] at h
        rw [← ints_len ns] at h
        exact (show Scd w1 (ints ns) t (ints ns).length (.slice bo ns.length cu) wr by rw [ints_len] at h ⊢; exact h).is)
      have HX := Lib.hid hx
      have hnm : k = (ns.map (t * ·)).length := by rw [List.length_map]; exact HNN.out
      have HNM := Lib.hid hnm
      have ht0 : 0 < t := by omega
      have ht1 : t ≤ 100 := by omega
      have hkk : decide ((k : Int) < k) = false := by simp
      clear hx hnm HR hlt
      rcases berr_cases (ints ns) l with ⟨he, -⟩ | ⟨_, he, -, -, -⟩ | ⟨ns', lim, he, en, rfl, ho⟩
      case inl =>
        have HE := Lib.hid he
        clear he
        have g0 : ((11 : Int) != 0) = true := by decide
        go_wp2_with fail
        refine (build_no ao c (ints ns) l wr HIW.out HE.out (by decide) (by rw [ints_len]; exact HNN.out)).mono ?_
        rintro e w3 ⟨rfl, hb3⟩
        have HIM3 := Lib.hid (HIM.out.below hb3)
        have HB3 := Lib.hid (HBW.out.trans (hb3.mono HBW.out.size))
        clear hb3 HIM HIW
        go_wp2_with fail
        refine (build_no bo cu _ l w3 HIM3.out ((berr_mul l HX.out ht0 ht1).trans HE.out) (by decide) (by rw [ints_len]; exact HNM.out)).mono ?_
        rintro e w4 ⟨rfl, hb4⟩
        have HB4 := Lib.hid (HB3.out.trans (hb4.mono HB3.out.size))
        clear hb4 HB3
        go_wp2
        go_ret
        exact ⟨rfl, HB4.out⟩
      case inr.inl =>
        have HE := Lib.hid he
        clear he
        have g0 : ((14 : Int) != 0) = true := by decide
        go_wp2_with fail
        refine (build_no ao c (ints ns) l wr HIW.out HE.out (by decide) (by rw [ints_len]; exact HNN.out)).mono ?_
        rintro e w3 ⟨rfl, hb3⟩
        have HIM3 := Lib.hid (HIM.out.below hb3)
        have HB3 := Lib.hid (HBW.out.trans (hb3.mono HBW.out.size))
        clear hb3 HIM HIW
        go_wp2_with fail
        refine (build_no bo cu _ l w3 HIM3.out ((berr_mul l HX.out ht0 ht1).trans HE.out) (by decide) (by rw [ints_len]; exact HNM.out)).mono ?_
        rintro e w4 ⟨rfl, hb4⟩
        have HB4 := Lib.hid (HB3.out.trans (hb4.mono HB3.out.size))
        clear hb4 HB3
        go_wp2
        go_ret
        exact ⟨rfl, HB4.out⟩
      case inr.inr =>
        obtain rfl : ns = ns' := by
          have := congrArg nat en
          rwa [nat_ints, nat_ints] at this
        have HO := Lib.hid ho
        have HOM := Lib.hid (okn_mul ho HX.out ht0 ht1)
        clear he en ho
        go_wp2_with fail
        refine (build_yes ao c ns lim wr HIW.out HO.out HNN.out).mono ?_
        rintro e w3 ⟨g, us, rfl, hU, hul, hI, hb3⟩
        have HU := Lib.hid (And.intro hU hul)
        have HIL := Lib.hid hI
        have HIC := Lib.hid (HIW.out.below hb3)
        have HIM3 := Lib.hid (HIM.out.below hb3)
        have HB3 := Lib.hid (HBW.out.trans (hb3.mono HBW.out.size))
        clear hU hul hI hb3 HIM HIW
        go_wp2_with fail
        refine (build_yes bo cu (ns.map (t * ·)) lim w3 HIM3.out HOM.out HNM.out).mono ?_
        rintro e w4 ⟨g4, us4, rfl, hU, hul, hI, hb4⟩
        have HU4 := Lib.hid (And.intro hU hul)
        have HIL4 := Lib.hid hI
        have HILa := Lib.hid (HIL.out.below hb4)
        have HICa := Lib.hid (HIC.out.below hb4)
        have HIM4 := Lib.hid (HIM3.out.below hb4)
        have HB4 := Lib.hid (HB3.out.trans (hb4.mono HB3.out.size))
        clear hU hul hI hb4 HIM3 HIL HIC HB3
        have f0 : ((0 : Int) != 0) = false := by decide
        go_wp2_with fail
        refine (cost_built bo (some ⟨g4, 0, none⟩) cu k (ns.map (t * ·)) us4 lim w4 HIM4.out HIL4.out HOM.out HU4.out.1 HU4.out.2 HNM.out).mono ?_
        rintro e w5 ⟨rfl, hb5⟩
        have HILb := Lib.hid (HILa.out.below hb5)
        have HICb := Lib.hid (HICa.out.below hb5)
        have HB5 := Lib.hid (HB4.out.trans (hb5.mono HB4.out.size))
        clear hb5 HIM4 HIL4 HILa HICa HB4
        rw [scale_cost ht0 HU.out.1 HU4.out.1 HO.out.lim.1 HU.out.2]
        obtain ⟨q, hq0⟩ : ∃ q, q = t * cst ns (lens ns us lim) ns.length := ⟨_, rfl⟩
        rw [← hq0]
        have HQ0 := Lib.hid hq0
        clear hq0
        go_wp2_with fail
        refine (cost_built ao (some ⟨g, 0, none⟩) c k ns us lim w5 HICb.out HILb.out HO.out HU.out.1 HU.out.2 HNN.out).mono ?_
        rintro e w6 ⟨rfl, hb6⟩
        have HILc := Lib.hid (HILb.out.below hb6)
        have HICc := Lib.hid (HICb.out.below hb6)
        have HB6 := Lib.hid (HB5.out.trans (hb6.mono HB5.out.size))
        clear hb6 HILb HICb HB5
        obtain ⟨A, hA⟩ : ∃ A, A = cst ns (lens ns us lim) ns.length := ⟨_, rfl⟩
        have hAr : A ≤ 320 * 16492674416640 := by rw [hA]; exact cst_room HO.out HU.out.1 HU.out.2
        rw [← hA]
        have HAA := Lib.hid hA
        have hq : t * A ≤ 100 * (320 * 16492674416640) := Nat.mul_le_mul ht1 hAr
        have hqq : q = t * A := by rw [hA]; exact HQ0.out
        have f1 : wrap64 ((t : Int) * (A : Int)) = (q : Nat) := by
          rw [← Int.natCast_mul, ← hqq, wrap64]
          rw [← hqq] at hq
          omega
        clear hA hAr hq hqq
        have f2 : ((q : Int) != q) = false := by simp
        by_cases hk0 : k = 0
        · have HK0 := Lib.hid hk0
          have f3 : ((k : Int) == 0) = true := by simp [hk0]
          clear hk0
          go_wp2
          go_ret
          exact ⟨rfl, HB6.out⟩
        · have f3 : ((k : Int) == 0) = false := by simp; omega
          have hsl := slice1_22 ao k c (by omega)
          obtain ⟨x, r, hxr⟩ : ∃ x r, ns = x :: r := by
            cases ns with
            | nil => exact absurd HNN.out hk0
            | cons x r => exact ⟨x, r, rfl⟩
          have HXR := Lib.hid hxr
          clear hxr
          have HOR : Hid (Okn r lim) := Lib.hid (by
            have h := HO.out
            rw [HXR.out] at h
            refine ⟨by have := h.len; rw [List.length_cons] at this; omega, fun y hy => h.all y (List.mem_cons_of_mem _ hy), ?_, h.lim⟩
            have := h.few
            unfold nz at this ⊢
            rw [List.filter_cons] at this
            split at this
            · rw [List.length_cons] at this; omega
            · exact this)
          have HKR : Hid (k - 1 = r.length) := Lib.hid (by have := HNN.out; rw [HXR.out, List.length_cons] at this; omega)
          have HIR : Hid (IS w6 (cut1 ao c 1) (ints r)) := Lib.hid (by
            have h := HICc.out
            rw [HXR.out] at h
            exact IS.tail (x := (x : Int)) (r := ints r) h c (by rw [ints_len]; have := HKR.out; omega))
          go_wp2_with fail
          refine (build_yes (cut1 ao c 1) (c - 1) r lim w6 HIR.out HOR.out HKR.out).mono ?_
          rintro e w7 ⟨g7, us7, rfl, hU, hul, hI, hb7⟩
          have HU7 := Lib.hid (And.intro hU hul)
          have HIL7 := Lib.hid hI
          have HILd := Lib.hid (HILc.out.below hb7)
          have HICd := Lib.hid (HICc.out.below hb7)
          have HIR7 := Lib.hid (HIR.out.below hb7)
          have HB7 := Lib.hid (HB6.out.trans (hb7.mono HB6.out.size))
          clear hU hul hI hb7 HIR HILc HICc HB6
          have g0 : ((0 : Int) == 0) = true := by decide
          go_wp2_with fail
          refine (cost_built (cut1 ao c 1) (some ⟨g7, 0, none⟩) (c - 1) (k - 1) r us7 lim w7 HIR7.out HIL7.out HOR.out HU7.out.1 HU7.out.2 HKR.out).mono ?_
          rintro e w8 ⟨rfl, hb8⟩
          have HILe := Lib.hid (HILd.out.below hb8)
          have HICe := Lib.hid (HICd.out.below hb8)
          have HB8 := Lib.hid (HB7.out.trans (hb8.mono HB7.out.size))
          clear hb8 HILd HICd HB7
          go_wp2_with fail
          refine (cost_built ao (some ⟨g, 0, none⟩) c k ns us lim w8 HICe.out HILe.out HO.out HU.out.1 HU.out.2 HNN.out).mono ?_
          rintro e w9 ⟨rfl, hb9⟩
          have HB9 := Lib.hid (HB8.out.trans (hb9.mono HB8.out.size))
          clear hb9 HB8
          have hle : cst r (lens r us7 lim) r.length ≤ cst ns (lens ns us lim) ns.length := by
            have h := HU.out
            have h2 := HO.out.lim.1
            rw [HXR.out] at h ⊢
            exact (less_cost h.1 HU7.out.1 h2 h.2).2
          generalize cst r (lens r us7 lim) r.length = R1 at hle ⊢
          generalize cst ns (lens ns us lim) ns.length = R2 at hle ⊢
          have f9 : (R1 : Int) ≤ R2 := by omega
          go_wp2
          go_ret
          exact ⟨rfl, HB9.out⟩
theorem scale (ao : Option Addr) (c : Nat) (zs : List Int) (l m : Int) (w : World) (h : IS w ao zs) (hc : zs.length ≤ c) :
    Calls Try.prog 6 #[.slice ao zs.length c, .int .i64 l, .int .i64 m] w fun e w' => e = .returned (.bool true) ∧ Below w.heap.size w w' := by
  by_cases h1 : zs.length ≤ 300
  · by_cases h2 : 1 ≤ m
    · by_cases h3 : m ≤ 100
      · exact scale_in ao c zs l m w h h1 h2 h3 hc
      · exact scale_c ao c zs l m w h1 h2 (by omega)
    · exact scale_b ao c zs l m w h1 (by omega)
  · exact scale_a ao c zs l m w (by omega)
end Go.Proofs.Ytccfbkbfmkdapaa
