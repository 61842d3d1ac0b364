/-
  The walk of LensOrder.
-/
import Derived.Test.YtccfbkbfmkdapaaTe
namespace Go.Proofs.Ytccfbkbfmkdapaa
open Go.RowKit

theorem order_a (ao : Option Addr) (c : Nat) (zs : List Int) (l : Int) (w : World)  (_h : 320 < zs.length) :
    Calls Try.prog 4 #[.slice ao zs.length c, .int .i64 l] w fun e w' => e = .returned (.bool true) ∧ Below w.heap.size w w' := by
  have d0 : decide ((320 : Int) < zs.length) = true := decide_eq_true (by omega)
  go_enter Try.func4, Try.ntmps4
  go_wp2_with fail
  refine (alive_any w).mono ?_
  rintro e w1 ⟨rfl, hb1⟩
  have HB := Lib.hid hb1
  clear hb1
  go_wp2
  go_ret
  exact ⟨rfl, HB.out⟩
theorem order_b (ao : Option Addr) (c : Nat) (zs : List Int) (l : Int) (w : World) (_h0 : zs.length ≤ 320) (_h : l < 1) :
    Calls Try.prog 4 #[.slice ao zs.length c, .int .i64 l] w fun e w' => e = .returned (.bool true) ∧ Below w.heap.size w w' := by
  have d0 : decide ((320 : Int) < zs.length) = false := decide_eq_false (by omega)
  have d1 : decide (l < 1) = true := decide_eq_true (by omega)
  go_enter Try.func4, Try.ntmps4
  go_wp2_with fail
  refine (alive_any w).mono ?_
  rintro e w1 ⟨rfl, hb1⟩
  have HB := Lib.hid hb1
  clear hb1
  go_wp2
  go_ret
  exact ⟨rfl, HB.out⟩
theorem order_c (ao : Option Addr) (c : Nat) (zs : List Int) (l : Int) (w : World) (_h0 : zs.length ≤ 320) (_h1 : 1 ≤ l) (_h : 14 < l) :
    Calls Try.prog 4 #[.slice ao zs.length c, .int .i64 l] w fun e w' => e = .returned (.bool true) ∧ Below w.heap.size w w' := by
  have d0 : decide ((320 : Int) < zs.length) = false := decide_eq_false (by omega)
  have d1 : decide (l < 1) = false := decide_eq_false (by omega)
  have d2 : decide ((14 : Int) < l) = true := decide_eq_true (by omega)
  go_enter Try.func4, Try.ntmps4
  go_wp2_with fail
  refine (alive_any w).mono ?_
  rintro e w1 ⟨rfl, hb1⟩
  have HB := Lib.hid hb1
  clear hb1
  go_wp2
  go_ret
  exact ⟨rfl, HB.out⟩
theorem order_d (ao : Option Addr) (c : Nat) (zs : List Int) (l : Int) (w : World) (h : IS w ao zs) (_h1 : zs.length ≤ 320) (_h2 : 1 ≤ l) (_h3 : l ≤ 14) (er : Int) (he : berr zs l = er) (h0 : er ≠ 0) :
    Calls Try.prog 4 #[.slice ao zs.length c, .int .i64 l] w fun e w' => e = .returned (.bool true) ∧ Below w.heap.size w w' := by
  have d1 : decide ((320 : Int) < zs.length) = false := decide_eq_false (by omega)
  have d2 : decide (l < 1) = false := decide_eq_false (by omega)
  have d3 : decide ((14 : Int) < l) = false := decide_eq_false (by omega)
  have n0 : (er != 0) = true := by simpa using h0
  have HI := Lib.hid h
  have HE := Lib.hid (And.intro he h0)
  clear h he h0
  go_enter Try.func4, Try.ntmps4
  go_wp2_with fail
  refine (alive_any w).mono ?_
  rintro e w1 ⟨rfl, hb1⟩
  have HB := Lib.hid hb1
  clear hb1
  go_wp2_with fail
  refine (build_no ao c zs l w1 (HI.out.below HB.out) HE.out.1 HE.out.2 rfl).mono ?_
  rintro e w2 ⟨rfl, hb2⟩
  have HB2 := Lib.hid (HB.out.trans (hb2.mono HB.out.size))
  clear hb2
  go_wp2
  go_ret
  exact ⟨rfl, HB2.out⟩

structure Tw (w wr : World) (ao lo : Option Addr) (ns ls : List Nat) : Prop where
  c : IS wr ao (ints ns)
  l : IS wr lo (ints ls)
  b : Below w.heap.size w wr
theorem Tw.drewN {w wr : World} {ao lo : Option Addr} {ns ls : List Nat} (h : Tw w wr ao lo ns ls) (q : Nat) : Tw w (wr.drewN q) ao lo ns ls := ⟨h.c.drewN q, h.l.drewN q, below_drewN h.b q⟩
theorem Tw.drew {w wr : World} {ao lo : Option Addr} {ns ls : List Nat} (h : Tw w wr ao lo ns ls) : Tw w wr.drew ao lo ns ls := h.drewN 1
theorem Tw.grow {w wr w' : World} {ao lo : Option Addr} {ns ls : List Nat} (h : Tw w wr ao lo ns ls) (hb : Below wr.heap.size wr w') : Tw w w' ao lo ns ls := ⟨h.c.below hb, h.l.below hb, h.b.trans (hb.mono h.b.size)⟩

set_option maxHeartbeats 4000000 in
set_option maxRecDepth 100000 in
theorem order_in (ao : Option Addr) (c : Nat) (ns : List Nat) (lim : Nat) (w : World) (h : IS w ao (ints ns)) (ho : Okn ns lim) (hl : lim ≤ 14) :
    Calls Try.prog 4 #[.slice ao ns.length c, .int .i64 lim] w fun e w' => e = .returned (.bool true) ∧ Below w.heap.size w w' := by
  have d1 : decide ((320 : Int) < ns.length) = false := decide_eq_false (by have := ho.len; omega)
  have d2 : decide ((lim : Int) < 1) = false := decide_eq_false (by have := ho.lim; omega)
  have d3 : decide ((14 : Int) < lim) = false := decide_eq_false (by omega)
  have hn3 : ns.length ≤ 320 := ho.len
  have HI := Lib.hid h
  have HO := Lib.hid ho
  have HO2 := Lib.hid (ho.more hl)
  clear h ho
  go_enter Try.func4, Try.ntmps4
  go_wp2_with fail
  refine (alive_any w).mono ?_
  rintro e w1 ⟨rfl, hb1⟩
  have HB := Lib.hid hb1
  clear hb1
  go_wp2_with fail
  refine (build_yes ao c ns lim w1 (HI.out.below HB.out) HO.out rfl).mono ?_
  rintro e w2 ⟨g, us, rfl, hU, hul, hI, hb2⟩
  have HU := Lib.hid (And.intro hU hul)
  obtain ⟨ls, hls⟩ : ∃ ls, ls = lens ns us lim := ⟨_, rfl⟩
  rw [← hls] at hI
  have HLS := Lib.hid hls
  have HLL : Hid (ls.length = ns.length) := Lib.hid (by rw [hls, lens_len])
  have HT : Hid (Tw w w2 ao (some ⟨g, 0, none⟩) ns ls) := Lib.hid ⟨(HI.out.below HB.out).below hb2, hI, HB.out.trans (hb2.mono HB.out.size)⟩
  clear hU hul hI hb2 HB HI hls
  go_wp2
  clear d1 d2 d3
  obtain ⟨lo, hlo⟩ : ∃ lo : Option Addr, lo = some ⟨g, 0, none⟩ := ⟨_, rfl⟩
  rw [← hlo] at HT ⊢
  clear hlo
  obtain ⟨n, hn⟩ : ∃ n, n = ns.length := ⟨_, rfl⟩
  rw [← hn] at hn3 HLL ⊢
  have HN := Lib.hid hn
  clear hn
  go_loopw [7] (fun iv wr => ∃ i : Nat, iv = .int .i64 i ∧ i ≤ n ∧ Tw w wr ao lo ns ls) (fun iv _ => n - (intOf iv).toNat)
  case atStart => exact ⟨0, rfl, Nat.zero_le _, HT.out⟩
  case round =>
    obtain ⟨i, rfl, hi, hT⟩ := hrel
    have HT1 := Lib.hid hT
    clear hT HT
    by_cases hlt : i < n
    · have hii : (i : Int) < n := by omega
      go_wp2
      go_loopw [8] (fun jv wr2 => ∃ j : Nat, jv = .int .i64 j ∧ j ≤ n ∧ Tw w wr2 ao lo ns ls) (fun jv _ => n - (intOf jv).toNat)
      case atStart => exact ⟨0, rfl, Nat.zero_le _, HT1.out⟩
      case round =>
        obtain ⟨j, rfl, hj, hT⟩ := hrel
        have HT2 := Lib.hid hT
        clear hT HT1
        by_cases hlt2 : j < n
        · have hjj : (j : Int) < n := by omega
          obtain ⟨b1, o1, e1, q1⟩ := HT2.out.c.nat (k := i) (by rw [← HN.out]; exact hlt)
          obtain ⟨b2, o2, e2, q2⟩ := HT2.out.c.nat (k := j) (by rw [← HN.out]; exact hlt2)
          obtain ⟨b3, o3, e3, q3⟩ := HT2.out.l.nat (k := i) (by rw [HLL.out]; exact hlt)
          obtain ⟨b4, o4, e4, q4⟩ := HT2.out.l.nat (k := j) (by rw [HLL.out]; exact hlt2)
          subst e1
          subst e3
          simp only [Option.some.injEq, Addr.mk.injEq, and_true] at e2 e4
          obtain ⟨rfl, rfl⟩ := e2
          obtain ⟨rfl, rfl⟩ := e4
          obtain ⟨x, hx⟩ : ∃ x, x = ns.getD i 0 := ⟨_, rfl⟩
          obtain ⟨y, hy⟩ : ∃ y, y = ns.getD j 0 := ⟨_, rfl⟩
          obtain ⟨s, hs⟩ : ∃ s, s = ls.getD i 0 := ⟨_, rfl⟩
          obtain ⟨t, ht⟩ : ∃ t, t = ls.getD j 0 := ⟨_, rfl⟩
          rw [← hx] at q1
          rw [← hy] at q2
          rw [← hs] at q3
          rw [← ht] at q4
          have HA : Hid (0 < y → y < x → s ≤ t) := Lib.hid fun h0 h1 => by
            rw [hs, ht, HLS.out]
            exact lens_anti lim HU.out.1 (by rw [← HN.out]; exact hlt) (by rw [← HN.out]; exact hlt2) (by rw [← hy]; exact h0) (by rw [← hx, ← hy]; exact h1)
          clear hx hy hs ht
          by_cases h1 : y < x
          · have h1' : (y : Int) < x := by omega
            rcases Nat.eq_zero_or_pos y with rfl | h2
            · clear HA
              go_wp2
              go_quiet (fail)
              clear q1 q2 q3 q4
              go_wp2
              go_roundw
              case rel => exact ⟨j + 1, by go_num, by omega, HT2.out.drewN _⟩
              case measure => simp [intOf]; omega
            · have h2' : (0 : Int) < y := by omega
              have h3 : s ≤ t := HA.out h2 h1
              have h3' : (s : Int) ≤ t := by omega
              clear HA
              go_wp2
              go_quiet (fail)
              clear q1 q2 q3 q4
              go_wp2
              go_roundw
              case rel => exact ⟨j + 1, by go_num, by omega, HT2.out.drewN _⟩
              case measure => simp [intOf]; omega
          · have h1' : (x : Int) ≤ y := by omega
            have h1'' : x ≤ y := by omega
            have h1n : decide ((y : Int) < x) = false := decide_eq_false (by omega)
            clear HA
            go_wp2
            go_quiet (fail)
            clear q1 q2 q3 q4
            go_wp2
            go_roundw
            case rel => exact ⟨j + 1, by go_num, by omega, HT2.out.drewN _⟩
            case measure => simp [intOf]; omega
        · have hj' : (n : Int) ≤ j := by omega
          go_wp2
          go_roundw
          case rel => exact ⟨i + 1, by go_num, by omega, HT2.out⟩
          case measure => simp [intOf]; omega
    · have hi' : (n : Int) ≤ i := by omega
      have f1 : wrap64 ((lim : Int) + 1) = (lim + 1 : Nat) := by rw [wrap64]; omega
      go_wp2_with fail
      refine (build_yes ao c ns (lim + 1) wr HT1.out.c HO2.out HN.out).mono ?_
      rintro e w3 ⟨g3, us3, rfl, hU3, hul3, hI3, hb3⟩
      have HU3 := Lib.hid (And.intro hU3 hul3)
      have HI3 := Lib.hid hI3
      have HT3 := Lib.hid (HT1.out.grow hb3)
      clear hU3 hul3 hI3 hb3 HT1
      have f0 : ((0 : Int) == 0) = true := by decide
      go_wp2_with fail
      refine (cost_built ao (some ⟨g3, 0, none⟩) c n ns us3 (lim + 1) w3 HT3.out.c HI3.out HO2.out HU3.out.1 HU3.out.2 HN.out).mono ?_
      rintro e w4 ⟨rfl, hb4⟩
      have HT4 := Lib.hid (HT3.out.grow hb4)
      clear hb4 HT3
      go_wp2_with fail
      rw [HLS.out] at HT4
      refine (cost_built ao lo c n ns us lim w4 HT4.out.c HT4.out.l HO.out HU.out.1 HU.out.2 HN.out).mono ?_
      rintro e w5 ⟨rfl, hb5⟩
      have HT5 := Lib.hid (HT4.out.grow hb5)
      clear hb5 HT4
      have hc := order_cost HU.out.1 HU3.out.1 HO.out.lim.1 HU.out.2
      generalize cst ns (lens ns us3 (lim + 1)) ns.length = A at hc ⊢
      generalize cst ns (lens ns us lim) ns.length = B at hc ⊢
      have hc' : (A : Int) ≤ B := by omega
      go_wp2
      go_ret
      exact ⟨rfl, HT5.out.b⟩

theorem order (ao : Option Addr) (c : Nat) (zs : List Int) (l : Int) (w : World) (h : IS w ao zs) :
    Calls Try.prog 4 #[.slice ao zs.length c, .int .i64 l] w fun e w' => e = .returned (.bool true) ∧ Below w.heap.size w w' := by
  by_cases h1 : zs.length ≤ 320
  · by_cases h2 : 1 ≤ l
    · by_cases h3 : l ≤ 14
      · rcases berr_cases zs l with ⟨e, _⟩ | ⟨_, e, _⟩ | ⟨ns, lim, _, rfl, rfl, ho⟩
        · exact order_d ao c zs l w h h1 h2 h3 11 e (by decide)
        · exact order_d ao c zs l w h h1 h2 h3 14 e (by decide)
        · rw [ints_len]
          exact order_in ao c ns lim w h ho (by omega)
      · exact order_c ao c zs l w h1 h2 (by omega)
    · exact order_b ao c zs l w h1 (by omega)
  · exact order_a ao c zs l w (by omega)
end Go.Proofs.Ytccfbkbfmkdapaa
