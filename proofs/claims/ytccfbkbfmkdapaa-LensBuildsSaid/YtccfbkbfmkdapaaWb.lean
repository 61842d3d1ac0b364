/-
  The walk of LensBuilds.
-/
import Derived.Test.YtccfbkbfmkdapaaRd
import Derived.Test.YtccfbkbfmkdapaaRe
namespace Go.Proofs.Ytccfbkbfmkdapaa
open Go.RowKit
set_option maxRecDepth 100000

/-- How many of the first lengths aren't 0. -/
def mny (ls : List Nat) (k : Nat) : Nat := sumr k fun i => if 0 < ls.getD i 0 then 1 else 0
theorem mny_le (ls : List Nat) (k : Nat) : mny ls k ≤ k := by
  have h : mny ls k ≤ sumr k fun _ => 1 := sumr_le fun i _ => by split <;> omega
  rwa [sumr_const, Nat.mul_one] at h
theorem mny_all {ns us : List Nat} {lim : Nat} (h : Used ns us) (hl : 1 ≤ lim) (h2 : us.length ≤ 2 ^ lim) : mny (lens ns us lim) ns.length = us.length := by
  have e1 : mny (lens ns us lim) ns.length = sumr ns.length fun s => if 0 < LF us (lenG (cts ns us) (lim - 1)) s then 1 else 0 := sumr_congr fun i hi => by rw [lens_at ns us lim hi]
  rw [e1, sum_LF h _ (fun _ x => if 0 < x then 1 else 0) (fun s => rfl)]
  have e2 : sumr us.length (fun i => if 0 < lenG (cts ns us) (lim - 1) i then 1 else 0) = sumr us.length fun _ => 1 := sumr_congr fun i hi => by
    have := (lenG_bounds h hl h2 hi).1
    rw [if_pos (by omega)]
  rw [e2, sumr_const, Nat.mul_one]
theorem copy_n (ao : Option Addr) (c : Nat) (zs : List Int) (w : World) (h : IS w ao zs) (hc : ao = none → c = 0) (hl : zs.length ≤ 1000) {n : Nat} (hn : n = zs.length) :
    Calls Try.prog 9 #[.slice ao n c] w fun e w' => ∃ bo d, e = .returned (.slice bo n d) ∧ IS w' bo zs ∧ Below w.heap.size w w' := by
  subst hn
  exact copy_any ao c zs w h (fun _ => hc) hl
theorem same_n (a b : Option Addr) (c d : Nat) (zs : List Int) (w : World) (h : IS w a zs) (h2 : IS w b zs) (hl : zs.length ≤ 1000) {n : Nat} (hn : n = zs.length) :
    Calls Try.prog 12 #[.slice a n c, .slice b n d] w fun e w' => e = .returned (.bool true) ∧ Below w.heap.size w w' := by
  subst hn
  refine (same_any a b c d zs w h h2 hl).mono ?_
  rintro e w' ⟨rfl, q, rfl⟩
  exact ⟨rfl, below_drewN (Below.refl _ _) q⟩
theorem room_n (ao : Option Addr) (c : Nat) (ls : List Nat) (w : World) (h : IS w ao (ints ls)) (hl : ls.length ≤ 320) (hx : ∀ x ∈ ls, x ≤ 15) {n : Nat} (hn : n = ls.length) :
    Calls Try.prog 13 #[.slice ao n c] w fun e w' => e = .returned (.tuple #[.int .i64 (room ls : Nat), .bool true]) ∧ Below w.heap.size w w' := by
  subst hn
  have := Room_yes ao c (ints ls) w h ⟨by rw [ints_len]; exact hl, fun z hz => by
    obtain ⟨x, hx', rfl⟩ := List.mem_map.1 hz
    have := hx x hx'
    omega⟩
  rwa [ints_len, nat_ints] at this

theorem builds_long (ao : Option Addr) (c : Nat) (zs : List Int) (l : Int) (w : World) (_h : 400 < zs.length) :
    Calls Try.prog 3 #[.slice ao zs.length c, .int .i64 l] w fun e w' => e = .returned (.bool true) ∧ Below w.heap.size w w' := by
  have d0 : decide ((400 : Int) < zs.length) = true := decide_eq_true (by omega)
  go_enter Try.func3, Try.ntmps3
  go_wp2_with fail
  refine (alive_any w).mono ?_
  rintro e w1 ⟨rfl, hb1⟩
  have HB := Lib.hid hb1
  clear hb1
  go_wp2
  go_ret
  exact ⟨rfl, HB.out⟩

set_option maxHeartbeats 4000000 in
theorem builds_no (ao : Option Addr) (c : Nat) (zs : List Int) (l : Int) (w : World) (h : IS w ao zs) (hc : ao = none → c = 0) (hl : zs.length ≤ 400) {er : Int} (he : berr zs l = er) (h0 : er ≠ 0) :
    Calls Try.prog 3 #[.slice ao zs.length c, .int .i64 l] w fun e w' => e = .returned (.bool true) ∧ Below w.heap.size w w' := by
  obtain ⟨n, hn⟩ : ∃ n, n = zs.length := ⟨_, rfl⟩
  have HN := Lib.hid hn
  rw [← hn] at hl ⊢
  have HE := Lib.hid he
  have HI := Lib.hid h
  have HC := Lib.hid hc
  have HZ := Lib.hid h0
  have d0 : decide ((400 : Int) < n) = false := decide_eq_false (by omega)
  have e1 : (er != er) = false := by simp
  have e2 : (er != 0) = true := by simpa using h0
  clear h hn he hc h0
  go_enter Try.func3, Try.ntmps3
  go_wp2_with fail
  refine (alive_any w).mono ?_
  rintro e w1 ⟨rfl, hb1⟩
  have HB1 := Lib.hid hb1
  have HI1 := Lib.hid (HI.out.below hb1)
  clear hb1 HI
  go_wp2_with fail
  refine (copy_n ao c zs w1 HI1.out HC.out (by rw [← HN.out]; omega) HN.out).mono ?_
  rintro e w2 ⟨bo, d, rfl, hi2, hb2⟩
  have HB2 := Lib.hid (HB1.out.trans (hb2.mono HB1.out.size))
  have HI2 := Lib.hid (HI1.out.below hb2)
  have HJ2 := Lib.hid hi2
  clear hb2 hi2 HI1 HB1
  go_wp2_with fail
  refine (build_no bo d zs l w2 HJ2.out HE.out HZ.out HN.out).mono ?_
  rintro e w3 ⟨rfl, hb3⟩
  have HB3 := Lib.hid (HB2.out.trans (hb3.mono HB2.out.size))
  have HI3 := Lib.hid (HI2.out.below hb3)
  have HJ3 := Lib.hid (HJ2.out.below hb3)
  clear hb3 HI2 HJ2 HB2
  go_wp2_with fail
  refine (fault_any ao c zs l w3 HI3.out (by rw [← HN.out]; omega) HN.out).mono ?_
  rw [HE.out]
  rintro e w4 ⟨rfl, hb4⟩
  have HB4 := Lib.hid (HB3.out.trans (hb4.mono HB3.out.size))
  have HI4 := Lib.hid (HI3.out.below hb4)
  have HJ4 := Lib.hid (HJ3.out.below hb4)
  clear hb4 HI3 HJ3 HB3
  go_wp2_with fail
  refine (same_n bo ao d c zs w4 HJ4.out HI4.out (by rw [← HN.out]; omega) HN.out).mono ?_
  rintro e w5 ⟨rfl, hb5⟩
  have HB5 := Lib.hid (HB4.out.trans (hb5.mono HB4.out.size))
  clear hb5 HI4 HJ4 HB4
  go_wp2
  go_ret
  exact ⟨rfl, HB5.out⟩

set_option maxHeartbeats 8000000 in
theorem builds_yes (ao : Option Addr) (c : Nat) (ns : List Nat) (lim : Nat) (w : World) (h : IS w ao (ints ns)) (hc : ao = none → c = 0) (ho : Okn ns lim) (he : berr (ints ns) lim = 0) {n : Nat} (hn : n = ns.length) :
    Calls Try.prog 3 #[.slice ao n c, .int .i64 lim] w fun e w' => e = .returned (.bool true) ∧ Below w.heap.size w w' := by
  have hl : n ≤ 320 := by rw [hn]; exact ho.len
  have HN := Lib.hid hn
  have HNI : Hid (n = (ints ns).length) := Lib.hid (by rw [ints_len]; exact hn)
  have HE := Lib.hid he
  have HI := Lib.hid h
  have HC := Lib.hid hc
  have HO := Lib.hid ho
  have hl1 := ho.lim.1
  have hl2 := ho.lim.2
  have d0 : decide ((400 : Int) < n) = false := decide_eq_false (by omega)
  clear h hn he hc ho
  go_enter Try.func3, Try.ntmps3
  go_wp2_with fail
  refine (alive_any w).mono ?_
  rintro e w1 ⟨rfl, hb1⟩
  have HB1 := Lib.hid hb1
  have HI1 := Lib.hid (HI.out.below hb1)
  clear hb1 HI
  go_wp2_with fail
  refine (copy_n ao c (ints ns) w1 HI1.out HC.out (by rw [← HNI.out]; omega) HNI.out).mono ?_
  rintro e w2 ⟨bo, d, rfl, hi2, hb2⟩
  have HB2 := Lib.hid (HB1.out.trans (hb2.mono HB1.out.size))
  have HI2 := Lib.hid (HI1.out.below hb2)
  have HJ2 := Lib.hid hi2
  clear hb2 hi2 HI1 HB1
  go_wp2_with fail
  refine (build_yes bo d ns lim w2 HJ2.out HO.out HN.out).mono ?_
  rintro e w3 ⟨g, us, rfl, hU, hul, hL, hb3⟩
  obtain ⟨ls, hls⟩ : ∃ ls, ls = lens ns us lim := ⟨_, rfl⟩
  have HLS := Lib.hid hls
  rw [← hls] at hL
  have HLL : Hid (ls.length = n) := Lib.hid (by rw [hls, lens_len]; exact HN.out.symm)
  have HLM : Hid (∀ x ∈ ls, x ≤ lim) := Lib.hid (by rw [hls]; exact lens_le hU hl1 hul)
  have HU := Lib.hid (And.intro hU hul)
  have HL3 := Lib.hid hL
  have HB3 := Lib.hid (HB2.out.trans (hb3.mono HB2.out.size))
  have HI3 := Lib.hid (HI2.out.below hb3)
  have HJ3 := Lib.hid (HJ2.out.below hb3)
  clear hls hU hul hL hb3 HI2 HJ2 HB2
  go_wp2_with fail
  refine (fault_any ao c (ints ns) lim w3 HI3.out (by rw [← HNI.out]; omega) HNI.out).mono ?_
  rw [HE.out]
  rintro e w4 ⟨rfl, hb4⟩
  have HB4 := Lib.hid (HB3.out.trans (hb4.mono HB3.out.size))
  have HI4 := Lib.hid (HI3.out.below hb4)
  have HJ4 := Lib.hid (HJ3.out.below hb4)
  have HL4 := Lib.hid (HL3.out.below hb4)
  clear hb4 HI3 HJ3 HB3 HL3
  have f0 : ((0 : Int) != 0) = false := by decide
  go_wp2_with fail
  refine (same_n bo ao d c (ints ns) w4 HJ4.out HI4.out (by rw [← HNI.out]; omega) HNI.out).mono ?_
  rintro e w5 ⟨rfl, hb5⟩
  have HB5 := Lib.hid (HB4.out.trans (hb5.mono HB4.out.size))
  have HI5 := Lib.hid (HI4.out.below hb5)
  have HL5 := Lib.hid (HL4.out.below hb5)
  clear hb5 HI4 HJ4 HB4 HL4
  have f1 : ((n : Int) != n) = false := by simp
  have HCL : Hid (∀ k, cst ns ls k ≤ k * 16492674416640) := Lib.hid fun k => cst_le HO.out.all (fun x hx => Nat.le_trans (HLM.out x hx) hl2) k
  go_wp2
  clear f0 f1 d0
  go_loopw [8, 9, 10] (fun mv cv iv' wr => ∃ k m s qd : Nat, k ≤ n ∧ iv' = .int .i64 k ∧ mv = .int .i64 m ∧ cv = .int .i64 s ∧ m = mny ls k ∧ s = cst ns ls k ∧ wr = w5.drewN qd) (fun _ _ iv' _ => n - (intOf iv').toNat)
  case atStart => exact ⟨0, 0, 0, 0, Nat.zero_le _, rfl, rfl, rfl, rfl, rfl, rfl⟩
  case round =>
    obtain ⟨k, m, s, qd, hk, rfl, rfl, rfl, hm, hs, hw⟩ := hrel
    have HW := Lib.hid hw
    have HM := Lib.hid hm
    have HS := Lib.hid hs
    have hm320 : m ≤ 320 := by rw [hm]; exact Nat.le_trans (mny_le ls k) (by omega)
    have hs1 : s ≤ 5277655813324800 := by rw [hs]; exact Nat.le_trans (HCL.out k) (Nat.le_trans (Nat.mul_le_mul_right _ (show k ≤ 320 by omega)) (by omega))
    have HI6 : Hid (∀ q, IS (wr.drewN q) ao (ints ns)) := Lib.hid fun q => by rw [hw]; exact (HI5.out.drewN qd).drewN q
    have HL6 : Hid (∀ q, IS (wr.drewN q) (some ⟨g, 0, none⟩) (ints ls)) := Lib.hid fun q => by rw [hw]; exact (HL5.out.drewN qd).drewN q
    have HB6 : Hid (Below w.heap.size w wr) := Lib.hid (by rw [hw]; exact below_drewN HB5.out qd)
    clear hw hm hs
    by_cases hlt : k < n
    · have hkk : (k : Int) < n := by omega
      obtain ⟨x, hx⟩ : ∃ x, x = ns.getD k 0 := ⟨_, rfl⟩
      obtain ⟨y, hy⟩ : ∃ y, y = ls.getD k 0 := ⟨_, rfl⟩
      have HCX : Hid (∀ q, ∃ b o, ao = some ⟨b, o, none⟩ ∧ (wr.drewN q).cell? ⟨b, o + k, none⟩ = some (.int .i64 (x : Nat))) := Lib.hid fun q => by rw [hx]; exact (HI6.out q).nat (by rw [← HN.out]; exact hlt)
      have HCY : Hid (∀ q, (wr.drewN q).cell? ⟨g, k, none⟩ = some (.int .i64 (y : Nat))) := Lib.hid fun q => by
        obtain ⟨b, o, e, q1⟩ := (HL6.out q).nat (k := k) (by rw [HLL.out]; exact hlt)
        simp only [Option.some.injEq, Addr.mk.injEq, and_true] at e
        obtain ⟨rfl, rfl⟩ := e
        rw [Nat.zero_add] at q1
        rw [hy]; exact q1
      have HLF : (x = 0 → y = 0) ∧ (0 < x → 1 ≤ y ∧ y ≤ lim) := by
        have h := LF_bounds HU.out.1 hl1 HU.out.2 (s := k) (by rw [← HN.out]; exact hlt)
        rw [← lens_at ns us lim (by rw [← HN.out]; exact hlt), ← HLS.out, ← hx, ← hy] at h
        exact h
      have HMS0 : Hid (mny ls (k + 1) = m + if 0 < y then 1 else 0) := Lib.hid (by rw [HM.out, hy]; unfold mny; rw [sumr_succ])
      obtain ⟨s2, hs2⟩ : ∃ s2, s2 = cst ns ls (k + 1) := ⟨_, rfl⟩
      have hs2e : s2 = s + x * y := by rw [hs2, HS.out, hx, hy]; unfold cst; rw [sumr_succ]
      have hs2b : s2 ≤ 5277655813324800 := by rw [hs2]; exact Nat.le_trans (HCL.out (k + 1)) (Nat.le_trans (Nat.mul_le_mul_right _ (show k + 1 ≤ 320 by omega)) (by omega))
      obtain ⟨xy, hxy⟩ : ∃ xy, xy = x * y := ⟨_, rfl⟩
      rw [← hxy] at hs2e
      have E1 : Hid (IntKind.i64.wrap ((y : Int) * x) = xy) := Lib.hid (by rw [← Int.natCast_mul, Nat.mul_comm, ← hxy, IntKind.wrap_i64]; omega)
      have E2 : Hid (IntKind.i64.wrap ((s : Int) + xy) = s2) := Lib.hid (by rw [IntKind.wrap_i64]; omega)
      have HSS := Lib.hid hs2.symm
      obtain ⟨b1, o1, e1, q1⟩ := HCX.out 0
      subst e1
      have q2 := HCY.out 0
      replace q1 : wr.cell? ⟨b1, o1 + k, none⟩ = some (.int .i64 (x : Nat)) := q1
      replace q2 : wr.cell? ⟨g, k, none⟩ = some (.int .i64 (y : Nat)) := q2
      clear hx hy hs2 hs2e hs2b hxy
      by_cases hx0 : x = 0
      · have hyz := HLF.1 hx0
        have u1 : ((y : Int) == 0) = true := by simp [hyz]
        have u2 : ((x : Int) == 0) = true := by simp [hx0]
        have u3 : decide ((0 : Int) < y) = false := decide_eq_false (by omega)
        have u7 : decide (0 < y) = false := decide_eq_false (by omega)
        have u4 : decide ((y : Int) < 0) = false := decide_eq_false (by omega)
        have u5 : decide ((lim : Int) < y) = false := decide_eq_false (by omega)
        have u6 : decide (lim < y) = false := decide_eq_false (by omega)
        have HMS : Hid (mny ls (k + 1) = m) := Lib.hid (by rw [HMS0.out, if_neg (by omega)]; rfl)
        clear hyz hx0 HLF
        go_wp2
        go_quiet (fail)
        clear u1 u2 u4 u5 u6 q1 q2
        have q2 := HCY.out nq
        obtain ⟨b3, o3, e3, q1⟩ := HCX.out nq
        simp only [Option.some.injEq, Addr.mk.injEq, and_true] at e3
        obtain ⟨rfl, rfl⟩ := e3
        obtain ⟨w2, hw2⟩ : ∃ w2, w2 = wr.drewN nq := ⟨_, rfl⟩
        have HW2 := Lib.hid hw2
        rw [← hw2] at q1 q2 ⊢
        clear hw2
        go_wp2
        have v1 := E1.out
        have v2 := E2.out
        go_quiet (fail)
        clear v1 v2 q1 q2
        go_wp2
        go_roundw
        case rel => exact ⟨k + 1, _, s2, _, by omega, by go_num, rfl, rfl, HMS.out.symm ▸ (by first | rfl | go_num), HSS.out.symm, by rw [HW2.out, HW.out, World.drewN_drewN, World.drewN_drewN]⟩
        case measure => simp [intOf]; omega
      · have hyz := HLF.2 (by omega)
        have u1 : ((y : Int) == 0) = false := by simp; omega
        have u2 : ((x : Int) == 0) = false := by simp; omega
        have u3 : decide ((0 : Int) < y) = true := decide_eq_true (by omega)
        have u7 : decide (0 < y) = true := decide_eq_true (by omega)
        have u4 : decide ((y : Int) < 0) = false := decide_eq_false (by omega)
        have u5 : decide ((lim : Int) < y) = false := decide_eq_false (by omega)
        have u6 : decide (lim < y) = false := decide_eq_false (by omega)
        have HMS : Hid (mny ls (k + 1) = m + 1) := Lib.hid (by rw [HMS0.out, if_pos (by omega)])
        clear hyz hx0 HLF
        go_wp2
        go_quiet (fail)
        clear u1 u2 u4 u5 u6 q1 q2
        have q2 := HCY.out nq
        obtain ⟨b3, o3, e3, q1⟩ := HCX.out nq
        simp only [Option.some.injEq, Addr.mk.injEq, and_true] at e3
        obtain ⟨rfl, rfl⟩ := e3
        obtain ⟨w2, hw2⟩ : ∃ w2, w2 = wr.drewN nq := ⟨_, rfl⟩
        have HW2 := Lib.hid hw2
        rw [← hw2] at q1 q2 ⊢
        clear hw2
        go_wp2
        have v1 := E1.out
        have v2 := E2.out
        go_quiet (fail)
        clear v1 v2 q1 q2
        go_wp2
        go_roundw
        case rel => exact ⟨k + 1, _, s2, _, by omega, by go_num, rfl, rfl, HMS.out.symm ▸ (by first | rfl | go_num), HSS.out.symm, by rw [HW2.out, HW.out, World.drewN_drewN, World.drewN_drewN]⟩
        case measure => simp [intOf]; omega
    · have hke : k = n := by omega
      subst hke
      have HMU : Hid (m = us.length) := Lib.hid (by rw [HM.out, HLS.out, HN.out]; exact mny_all HU.out.1 hl1 HU.out.2)
      have HSB : Hid (s = bst (cts ns us) (lim - 1)) := Lib.hid (by rw [HS.out, HLS.out, HN.out]; exact lens_cost HU.out.1 hl1 HU.out.2)
      have HSC : Hid (s = cst ns (lens ns us lim) ns.length) := Lib.hid (by rw [HS.out, HLS.out, HN.out])
      have HIW : Hid (IS wr ao (ints ns)) := Lib.hid (HI6.out 0)
      have HLW : Hid (IS wr (some ⟨g, 0, none⟩) (ints ls)) := Lib.hid (HL6.out 0)
      have HR0 : Hid (room ls = if m = 0 then 0 else if m = 1 then 16384 else 32768) := Lib.hid (by rw [HLS.out, HMU.out]; exact lens_room HU.out.1 ⟨hl1, hl2⟩ HU.out.2)
      clear HI6 HL6 HM HS HMU
      go_wp2_with fail
      refine (room_n (some ⟨g, 0, none⟩) k ls wr HLW.out (by rw [HLL.out]; exact hl) (fun x hx => Nat.le_trans (HLM.out x hx) hl2) HLL.out.symm).mono ?_
      rintro e w6 ⟨rfl, hb6⟩
      have HB7 := Lib.hid (HB6.out.trans (hb6.mono HB6.out.size))
      have HIX := Lib.hid (HIW.out.below hb6)
      have HLX := Lib.hid (HLW.out.below hb6)
      clear hb6 HIW HLW
      obtain ⟨R, hR⟩ : ∃ R, R = room ls := ⟨_, rfl⟩
      have HR : Hid (R = if m = 0 then 0 else if m = 1 then 16384 else 32768) := Lib.hid (by rw [hR]; exact HR0.out)
      rw [← hR]
      clear hR HR0
      have z1 : ((s : Int) == s) = true := by simp
      by_cases hm0 : m = 0
      · have y1 : decide ((1 : Int) < m) = false := decide_eq_false (by omega)
        have y2 : ((m : Int) == 1) = false := by simp; omega
        clear hm0
        go_wp2_with fail
        refine (least_any ao c ns us lim w6 HIX.out HO.out HU.out.1 HU.out.2 HN.out).mono ?_
        rw [← HSB.out]
        rintro e w7 ⟨rfl, hb7⟩
        have HB8 := Lib.hid (HB7.out.trans (hb7.mono HB7.out.size))
        have HIY := Lib.hid (HIX.out.below hb7)
        have HLY := Lib.hid (HLX.out.below hb7)
        clear hb7
        go_wp2_with fail
        refine (cost_built ao (some ⟨g, 0, none⟩) c k ns us lim w7 HIY.out (by rw [← HLS.out]; exact HLY.out) HO.out HU.out.1 HU.out.2 HN.out).mono ?_
        rw [← HSC.out]
        rintro e w8 ⟨rfl, hb8⟩
        have HB9 := Lib.hid (HB8.out.trans (hb8.mono HB8.out.size))
        clear hb8
        go_wp2
        go_ret
        exact ⟨rfl, HB9.out⟩
      · by_cases hm1 : m = 1
        · have y1 : decide ((1 : Int) < m) = false := decide_eq_false (by omega)
          have y2 : ((m : Int) == 1) = true := by simp; omega
          have hR1 : R = 16384 := by rw [HR.out, if_neg hm0, if_pos hm1]
          have y3 : ((R : Int) != 16384) = false := by simp [hR1]
          clear hm0 hm1 hR1
          go_wp2_with fail
          refine (least_any ao c ns us lim w6 HIX.out HO.out HU.out.1 HU.out.2 HN.out).mono ?_
          rw [← HSB.out]
          rintro e w7 ⟨rfl, hb7⟩
          have HB8 := Lib.hid (HB7.out.trans (hb7.mono HB7.out.size))
          have HIY := Lib.hid (HIX.out.below hb7)
          have HLY := Lib.hid (HLX.out.below hb7)
          clear hb7
          go_wp2_with fail
          refine (cost_built ao (some ⟨g, 0, none⟩) c k ns us lim w7 HIY.out (by rw [← HLS.out]; exact HLY.out) HO.out HU.out.1 HU.out.2 HN.out).mono ?_
          rw [← HSC.out]
          rintro e w8 ⟨rfl, hb8⟩
          have HB9 := Lib.hid (HB8.out.trans (hb8.mono HB8.out.size))
          clear hb8
          go_wp2
          go_ret
          exact ⟨rfl, HB9.out⟩
        · have y1 : decide ((1 : Int) < m) = true := decide_eq_true (by omega)
          have y2 : ((m : Int) == 1) = false := by simp; omega
          have hR1 : R = 32768 := by rw [HR.out, if_neg hm0, if_neg hm1]
          have y3 : ((R : Int) != 32768) = false := by simp [hR1]
          clear hm0 hm1 hR1
          go_wp2_with fail
          refine (least_any ao c ns us lim w6 HIX.out HO.out HU.out.1 HU.out.2 HN.out).mono ?_
          rw [← HSB.out]
          rintro e w7 ⟨rfl, hb7⟩
          have HB8 := Lib.hid (HB7.out.trans (hb7.mono HB7.out.size))
          have HIY := Lib.hid (HIX.out.below hb7)
          have HLY := Lib.hid (HLX.out.below hb7)
          clear hb7
          go_wp2_with fail
          refine (cost_built ao (some ⟨g, 0, none⟩) c k ns us lim w7 HIY.out (by rw [← HLS.out]; exact HLY.out) HO.out HU.out.1 HU.out.2 HN.out).mono ?_
          rw [← HSC.out]
          rintro e w8 ⟨rfl, hb8⟩
          have HB9 := Lib.hid (HB8.out.trans (hb8.mono HB8.out.size))
          clear hb8
          go_wp2
          go_ret
          exact ⟨rfl, HB9.out⟩
theorem builds (ao : Option Addr) (c : Nat) (zs : List Int) (l : Int) (w : World) (h : IS w ao zs) (hc : ao = none → c = 0) :
    Calls Try.prog 3 #[.slice ao zs.length c, .int .i64 l] w fun e w' => e = .returned (.bool true) ∧ Below w.heap.size w w' := by
  by_cases h4 : 400 < zs.length
  · exact builds_long ao c zs l w h4
  · rcases berr_cases zs l with ⟨he, -⟩ | ⟨_, he, -, -, -⟩ | ⟨ns, lim, he, rfl, rfl, ho⟩
    · exact builds_no ao c zs l w h hc (by omega) he (by decide)
    · exact builds_no ao c zs l w h hc (by omega) he (by decide)
    · rw [ints_len]
      exact builds_yes ao c ns lim w h hc ho he rfl
end Go.Proofs.Ytccfbkbfmkdapaa
