/-
  Contract of Build.
-/
import Derived.Test.YtccfbkbfmkdapaaEc
import Derived.Test.YtccfbkbfmkdapaaFa
import Derived.Test.YtccfbkbfmkdapaaOa
namespace Go.Proofs.Ytccfbkbfmkdapaa
open Go.RowKit

def maxC : Int := 1099511627776
/-- Counts and a limit that are out of bounds. -/
def Wrong (zs : List Int) (limit : Int) : Prop := 320 < zs.length ∨ anyBad 0 maxC zs = true ∨ Bad 1 15 limit

/-- No lengths, and why. -/
def No (er : Int) (w : World) (e : Ending) (w' : World) : Prop := e = .returned (.tuple #[.slice none 0 0, .int .i64 er]) ∧ Below w.heap.size w w'

set_option maxHeartbeats 4000000 in
set_option maxRecDepth 100000 in
theorem build_wrong (ao : Option Addr) (c : Nat) (zs : List Int) (limit : Int) (w : World) (h : IS w ao zs) (hw : Wrong zs limit) :
    Calls Try.prog 10 #[.slice ao zs.length c, .int .i64 limit] w (No 11 w) := by
  have HI := Lib.hid h
  clear h
  by_cases c1 : 320 < zs.length
  · have c1' : (320 : Int) < zs.length := by omega
    clear hw
    go_enter Try.func10, Try.ntmps10
    go_wp2_with (first
      | (go_at_call 21; refine (outside_any _ _ _).mono ?_; rintro e w1 ⟨p, q, rfl, hk, hb, hp, hq⟩; have HK := Lib.hid hk; have HB := Lib.hid hb; clear hk hb))
    go_ret2
    exact ⟨rfl, HB.out⟩
  · have c1' : decide ((320 : Int) < zs.length) = false := by simp; omega
    have c1'' : (zs.length : Int) ≤ 320 := by omega
    cases hb : anyBad 0 maxC zs with
    | true =>
      have HBD := Lib.hid hb
      clear hw hb
      go_enter Try.func10, Try.ntmps10
      go_wp2_with (first
        | (go_at_call 21; refine (outside_any _ _ _).mono ?_; rintro e w1 ⟨p, q, rfl, hk, hb, hp, hq⟩; have HK := Lib.hid hk; have HB := Lib.hid hb; clear hk hb; unfold fnOut)
        | (go_at_call 22; refine (contains_any ao c p q 0 maxC zs w1 (by omega) (HI.out.below HB.out) HK.out).mono ?_; rintro e w2 ⟨rfl, rfl⟩; rw [HBD.out]))
      go_ret2
      exact ⟨rfl, HB.out⟩
    | false =>
      have hbad : Bad 1 15 limit := by
        rcases hw with h | h | h
        · exact absurd h c1
        · rw [hb] at h; cases h
        · exact h
      have HBD := Lib.hid hb
      have HLB := Lib.hid hbad
      clear hw hb hbad
      go_enter Try.func10, Try.ntmps10
      go_upto_region 2 with (go_at_call 21; refine (outside_any _ _ _).mono ?_; rintro e w1 ⟨p, q, rfl, hk, hb, hp, hq⟩; have HK := Lib.hid hk; have HB := Lib.hid hb; clear hk hb; unfold fnOut)
      go_wp2_with (first
        | (go_at_call 22; refine (contains_any ao c p q 0 maxC zs w1 (by omega) (HI.out.below HB.out) HK.out).mono ?_; rintro e w2 ⟨rfl, rfl⟩; rw [HBD.out])
        | (go_at_call 21; refine (outside_any 1 15 _).mono ?_; rintro e w3 ⟨p2, q2, rfl, hk2, hb2, hp2, hq2⟩; have HK2 := Lib.hid hk2; have HB2 := Lib.hid hb2; clear hk2 hb2; unfold fnOut)
        | (go_at_call 35; refine (bad_yes p2 q2 1 15 limit _ HK2.out HLB.out).mono ?_; rintro e w4 ⟨rfl, rfl⟩))
      go_ret2
      exact ⟨rfl, HB.out.trans (HB2.out.mono HB.out.size)⟩

/-- Counts and a limit within bounds. -/
structure Fine (zs : List Int) (lim : Nat) : Prop where
  len : zs.length ≤ 320
  all : ∀ z ∈ zs, 0 ≤ z ∧ z ≤ maxC
  lim : 1 ≤ lim ∧ lim ≤ 15
theorem fine_or (zs : List Int) (limit : Int) (h : ¬ Wrong zs limit) : ∃ lim : Nat, limit = lim ∧ Fine zs lim := by
  have h1 : ¬ 320 < zs.length := fun e => h (.inl e)
  have h2 : ¬ Bad 1 15 limit := fun e => h (.inr (.inr e))
  have h3 : 1 ≤ limit ∧ limit ≤ 15 := by unfold Bad at h2; omega
  refine ⟨limit.toNat, by omega, by omega, fun z hz => ?_, by omega⟩
  have h4 : ¬ Bad 0 maxC z := fun e => h (.inr (.inl (by unfold anyBad; rw [List.any_eq_true]; exact ⟨z, hz, decide_eq_true e⟩)))
  unfold Bad at h4
  omega
theorem Fine.nobad {zs : List Int} {lim : Nat} (h : Fine zs lim) : anyBad 0 maxC zs = false := by
  unfold anyBad
  rw [List.any_eq_false]
  intro z hz hb
  have := h.all z hz
  rcases of_decide_eq_true hb with h1 | h1 <;> omega
theorem Fine.ints {zs : List Int} {lim : Nat} (h : Fine zs lim) : Ytccfbkbfmkdapaa.ints (nat zs) = zs := by
  unfold Ytccfbkbfmkdapaa.ints nat
  rw [List.map_map]
  conv => rhs; rw [← List.map_id zs]
  apply List.map_congr_left
  intro z hz
  have := (h.all z hz).1
  simp only [Function.comp, id]
  omega

/-- The lengths of places. -/
def lenG (cs : List Nat) (D : Nat) : Nat → Nat := if cs.length = 1 then fun _ => 1 else la (top cs D)
/-- Lengths have been built. -/
def Built (zs : List Int) (lim : Nat) (w : World) (e : Ending) (w' : World) : Prop :=
  ∃ g us, e = .returned (.tuple #[.slice (some ⟨g, 0, none⟩) zs.length zs.length, .int .i64 0]) ∧ Used (nat zs) us ∧ us.length ≤ 2 ^ lim ∧ Blk w' g 3 (ia zs.length (LF us (lenG (cts (nat zs) us) (lim - 1)))) ∧ Below w.heap.size w w' ∧ w.heap.size ≤ g

theorem row_ne {cs : List Nat} (h : 2 ≤ cs.length) (k : Nat) : row cs k ≠ [] := fun e => by
  have := row_len_ge cs k
  rw [e, List.length_nil] at this
  omega
theorem rows_apart {W : World} {gl N b off j : Nat} {f : Nat → Nat} {ao : Option Addr} {cs : List Nat} (hA : Blk W gl 3 (ia N f)) (h : CS W ao (row cs j)) (e : ao = some ⟨b, off, none⟩) (h2 : 2 ≤ cs.length) : b ≠ gl := by
  rcases h with h | ⟨b', off', rfl, hc⟩
  · exact absurd h (row_ne h2 j)
  · have e' := Option.some.inj e
    simp only [Addr.mk.injEq] at e'
    rw [← e'.1]
    exact coins_apart hA hc (row_ne h2 j)
/-- The rows, told by their parts. -/
theorem Rst.split {w W : World} {cs : List Nat} {k c5 : Nat} {a5 : Option Addr} (h : Rst w W cs k (.slice a5 k c5)) (hk : 1 ≤ k) :
    ∃ (g : Nat) (rs : Nat → Sv), a5 = some ⟨g, 0, none⟩ ∧ w.heap.size ≤ g ∧ g < W.heap.size ∧ (∀ j, j < k → W.cell? ⟨g, j, none⟩ = some (sv (rs j))) ∧
      ∀ j, j < k → (rs j).2.1 = (row cs j).length ∧ (row cs j).length ≤ (rs j).2.2 ∧ CS W (rs j).1 (row cs j) ∧ ∀ b off, (rs j).1 = some ⟨b, off, none⟩ → b < W.heap.size := by
  obtain ⟨vals, ho, hv⟩ := h.own
  rcases ho.2 with ⟨e, h0⟩ | ⟨g, cap, cur, e, hbg, hh, hnc, hcm, hcs, htake⟩
  · omega
  · simp only [Value.slice.injEq] at e
    obtain ⟨rfl, _, rfl⟩ := e
    have hsv : ∀ j, ∃ x : Sv, j < k → vals[j]? = some (sv x) ∧ x.2.1 = (row cs j).length ∧ (row cs j).length ≤ x.2.2 ∧ CS W x.1 (row cs j) ∧ ∀ b off, x.1 = some ⟨b, off, none⟩ → b < W.heap.size := fun j => by
      by_cases hj : j < k
      · obtain ⟨ao, c, h1, h2⟩ := hv j hj
        exact ⟨(ao, (row cs j).length, c), fun _ => ⟨h1, rfl, h2.room, h2.cs, fun b off e => (h2.lt b off e).1⟩⟩
      · exact ⟨(none, 0, 0), fun h => absurd h hj⟩
    refine ⟨g, fun j => Classical.choose (hsv j), rfl, hbg, (Array.getElem?_eq_some_iff.1 hh).1, fun j hj => ?_, fun j hj => (Classical.choose_spec (hsv j) hj).2⟩
    rw [World.ownsRow.cellAt ho j (by omega)]
    exact (Classical.choose_spec (hsv j) hj).1

set_option maxHeartbeats 8000000 in
set_option maxRecDepth 100000 in
theorem build_fine (ao : Option Addr) (c : Nat) (zs : List Int) (lim : Nat) (w : World) (h : IS w ao zs) (hf : Fine zs lim) :
    Calls Try.prog 10 #[.slice ao zs.length c, .int .i64 lim] w fun e w' => (2 ^ lim < (usd (nat zs) zs.length).length ∧ No 14 w e w') ∨ Built zs lim w e w' := by
  have HI := Lib.hid h
  have HF := Lib.hid hf
  have HBD := Lib.hid hf.nobad
  have HLB : Hid (¬ Bad 1 15 (lim : Int)) := Lib.hid (by unfold Bad; have := hf.lim; omega)
  have c1' : decide ((320 : Int) < zs.length) = false := by simp; have := hf.len; omega
  have c1'' : (zs.length : Int) ≤ 320 := by have := hf.len; omega
  have hl1 := hf.lim.1
  have hl2 := hf.lim.2
  have HNL : Hid ((nat zs).length = zs.length) := Lib.hid (nat_len zs)
  clear h hf
  go_enter Try.func10, Try.ntmps10
  go_upto_region 2 with (go_at_call 21; refine (outside_any _ _ _).mono ?_; rintro e w1 ⟨p, q, rfl, hk, hb, hp, hq⟩; have HK := Lib.hid hk; have HB := Lib.hid hb; clear hk hb; unfold fnOut)
  go_upto_region 4 with (first
    | (go_at_call 22; refine (contains_any ao c p q 0 maxC zs w1 (by omega) (HI.out.below HB.out) HK.out).mono ?_; rintro e w2 ⟨rfl, rfl⟩; rw [HBD.out])
    | (go_at_call 21; refine (outside_any 1 15 _).mono ?_; rintro e w3 ⟨p2, q2, rfl, hk2, hb2, hp2, hq2⟩; have HK2 := Lib.hid hk2; have HB2 := Lib.hid (HB.out.trans (hb2.mono HB.out.size)); clear hk2 hb2; unfold fnOut)
    | (go_at_call 35; refine (bad_no p2 q2 1 15 (lim : Int) _ HK2.out HLB.out).mono ?_; rintro e w4 ⟨rfl, rfl⟩))
  have HUS := Lib.hid (used_any ao c (nat zs) w4 (by rw [HF.out.ints]; exact HI.out.below HB2.out) (by rw [nat_len]; exact HF.out.len))
  rw [nat_len] at HUS
  clear HK HK2 hp hq hp2 hq2 HBD HLB
  go_upto_region 5 with (go_at_call 23; (with_reducible refine HUS.out.mono ?_); rintro e w5 ⟨bo, cu, us, rfl, hU, hIS, hb5, hfr⟩; have HU := Lib.hid hU; have HIS := Lib.hid hIS; have HB5 := Lib.hid (HB2.out.trans (hb5.mono HB2.out.size)); have HFR := Lib.hid hfr; clear hU hIS hb5)
  go_upto_if 29 with fail
  obtain ⟨pw, hpw⟩ : ∃ pw, pw = 2 ^ lim := ⟨_, rfl⟩
  have hp2 : pw ≤ 32768 := by rw [hpw]; exact Nat.le_trans (Nat.pow_le_pow_right (by omega) hl2) (Nat.le_refl (2 ^ 15))
  have epw : wrap64 ((2 : Int) ^ lim) = pw := by
    rw [show (2 : Int) ^ lim = ((2 ^ lim : Nat) : Int) by simp, ← hpw]
    unfold wrap64
    omega
  have HPW := Lib.hid hpw
  rw [epw]
  clear epw hpw
  have hul : (usd (nat zs) zs.length).length = us.length := by rw [← HNL.out]; exact HU.out.perm.length_eq.symm
  by_cases hmany : pw < us.length
  · have hm' : (pw : Int) < us.length := by omega
    go_wp2
    go_ret2
    exact .inl ⟨by rw [← HPW.out, hul]; exact hmany, rfl, HB5.out⟩
  · have hm' : decide ((pw : Int) < us.length) = false := decide_eq_false (by omega)
    have hm2 : (us.length : Int) ≤ pw := by omega
    rw [hm']
    have HBU : Hid (us.length ≤ 2 ^ lim) := Lib.hid (by rw [← HPW.out]; omega)
    have hus320 : us.length ≤ 320 := by rw [← hul]; exact Nat.le_trans (usd_len _ _) HF.out.len
    obtain ⟨n, hn⟩ : ∃ n, n = zs.length := ⟨_, rfl⟩
    have HN := Lib.hid hn
    rw [← hn] at c1'' hul ⊢
    clear hn
    have huN : Hid (∀ u ∈ us, u < n) := Lib.hid fun u hu => by have := (HU.out.mem.1 hu).1; rw [HNL.out, ← HN.out] at this; exact this
    clear hm' hm2 hmany
    go_upto_region 8 with (refine wpList_make_z rfl 22 (.tmp 31) (.tmp 31) rfl 3 (.int .i64 0) 1 8 n Try.underlying22 (by kernel_rfl) .i64 .i64 n n rfl rfl rfl rfl (by omega) (by omega) ?_; intro W hb ht hs; have HS := Lib.hid hs; clear hs)
    obtain ⟨gl, hgl⟩ : ∃ gl, gl = w5.heap.size := ⟨_, rfl⟩
    have HGL := Lib.hid hgl
    have HA : Hid (Blk W gl 3 (ia n fun _ => 0)) := Lib.hid (by
      rw [hgl]
      rw [show va (n * 1) (fun i => (Value.int .i64 0).cells[i % (Value.int .i64 0).cells.size]!) = ia n fun _ => 0 by
        rw [Nat.mul_one]
        refine va_congr fun i _ => ?_
        rw [show (Value.int .i64 0).cells = #[.int .i64 0] from rfl, show (#[Value.int .i64 0] : Array Value).size = 1 from rfl, Nat.mod_one]
        rfl] at hb
      exact hb)
    have HBW := Lib.hid (HB5.out.trans ((ht.none_below).mono HB5.out.size))
    have HIW := Lib.hid (HIS.out.below ht.none_below)
    have HSW : Hid (gl < W.heap.size) := Lib.hid HA.out.lt
    have hwg : w.heap.size ≤ gl := by rw [hgl]; exact HB5.out.size
    rw [← hgl]
    clear hgl hb ht HIS
    by_cases h1 : us.length = 1
    · obtain ⟨u, rfl⟩ : ∃ u, us = [u] := List.length_eq_one_iff.1 h1
      have hun : u < n := huN.out u (by simp)
      obtain ⟨b1, o1, rfl, q1⟩ := HIW.out.nat (k := 0) (by simp)
      rw [show List.getD [u] 0 0 = u from rfl, Nat.add_zero] at q1
      have q2 := (HA.out.cell u).trans (va_at n _ u hun)
      have q3 := HA.out.free u
      have hun' : (u : Int) < n := by omega
      have H2 := Lib.hid (HA.out.setCell u (.int .i64 ((1 : Nat) : Int)))
      rw [ia_set n _ (LF [u] fun _ => 1) u 1 (fun i _ => by unfold LF; by_cases e : i = u <;> simp [e])] at H2
      go_wp2
      go_ret2
      refine .inr ⟨gl, [u], by rw [← HN.out]; rfl, HU.out, HBU.out, ?_, HBW.out.setCell (p := ⟨gl, u, none⟩) hwg _, hwg⟩
      rw [← HN.out, lenG, if_pos (by rw [cts_len]; rfl)]
      exact H2.out
    · have h1' : ((us.length : Int) == 1) = false := by simp; omega
      by_cases h2 : 1 < us.length
      · have h2' : (1 : Int) < us.length := by omega
        have hcl : (cts (nat zs) us).length = us.length := cts_len _ _
        obtain ⟨cs, hcs⟩ : ∃ cs, cs = cts (nat zs) us := ⟨_, rfl⟩
        have HCS := Lib.hid hcs
        have HSG := Lib.hid (singles_any ao bo c cu (nat zs) us W (by rw [HF.out.ints]; exact HI.out.below HBW.out) HIW.out (by omega) (fun u hu => by rw [HNL.out, ← HN.out]; exact huN.out u hu))
        rw [HNL.out, ← HN.out, ← hcs] at HSG
        rw [← hcs] at hcl
        have HFIT : Hid (Fit cs (lim - 1)) := Lib.hid ⟨by rw [hcs]; exact HU.out.up, by omega, by rw [hcl, show lim - 1 + 1 = lim by omega]; exact HBU.out⟩
        have HMX : Hid (∀ x ∈ cs, x ≤ 1099511627776) := Lib.hid fun x hx => by
          rw [hcs] at hx
          obtain ⟨u, _, rfl⟩ := List.mem_map.1 hx
          have h3 := huN.out u (by assumption)
          have h4 := HF.out.all _ (getD_mem (zs := zs) (k := u) (by rw [← HN.out]; exact h3))
          have h5 : (nat zs).getD u 0 = (zs.getD u 0).toNat := nat_ln zs u
          rw [h5]
          unfold maxC at h4
          omega
        have hcl2 : (sg cs).length = us.length := by rw [sg_len]; exact hcl
        clear hcs
        have hw5 : w5.heap.size ≤ gl := by rw [HGL.out]; exact Nat.le_refl _
        have h5w := hw5
        go_wp2_with fail
        with_reducible refine HSG.out.mono ?_
        rintro e w6 ⟨a6, c6, rfl, hCS, hb6, hroom, hnil, hfr6⟩
        have hsgl : (List.map (fun c => (c, true)) cs).length = cs.length := sg_len cs
        rw [hsgl] at hroom ⊢
        have HCS6 := Lib.hid hCS
        have HB6 := Lib.hid hb6
        have HRW := Lib.hid (rows_any a6 c6 lim cs w6 hCS hnil hroom (by omega) (by omega) hl1 hl2 HMX.out)
        rw [hcl] at HRW
        clear hCS hb6 hroom hnil hfr6 hsgl HSG
        go_wp2_with fail
        with_reducible refine HRW.out.mono ?_
        rintro e w7 ⟨a5, c5, rfl, hRst⟩
        obtain ⟨g5, rs, rfl, hr1, hr2, hr3, hr4⟩ := hRst.split hl1
        have HB7 := Lib.hid (HB6.out.trans (hRst.below.mono HB6.out.size))
        have HA7 := Lib.hid (HA.out.below HB7.out)
        have hs7 : gl < g5 := Nat.lt_of_lt_of_le HSW.out (Nat.le_trans HB6.out.size hr1)
        have hs8 : gl < w7.heap.size := HA7.out.lt
        have HLE := Lib.hid (lengthen_any gl n bo cu g5 c5 lim rs cs us w7 hr3 (fun j hj => ⟨(hr4 j hj).1, (hr4 j hj).2.1, (hr4 j hj).2.2.1, fun b off e => ⟨(hr4 j hj).2.2.2 b off e, rows_apart HA7.out (hr4 j hj).2.2.1 e (by omega)⟩⟩) hr2 (by omega) HA7.out (HIW.out.below HB7.out)
          (fun b off e _ => by have h8 := (HFR.out b off e).2; omega) HU.out.nodup (by omega) huN.out hl1 hl2 HFIT.out (by omega))
        clear hRst hr1 hr2 hr3 hr4 hs7 hs8 HRW hw5 h5w
        go_wp2_with fail
        with_reducible refine HLE.out.mono ?_
        rintro e w8 ⟨rfl, hA8, hT8⟩
        have H8 := Lib.hid (And.intro hA8 hT8)
        clear hA8 hT8 HLE
        go_wp2
        go_ret2
        refine .inr ⟨gl, us, by rw [← HN.out]; rfl, HU.out, HBU.out, ?_, ?_, hwg⟩
        · rw [← HN.out, ← HCS.out, lenG, if_neg (by omega)]
          exact H8.out.1
        · exact (HBW.out.trans (HB7.out.mono HBW.out.size)).trans (H8.out.2.below (Nat.le_trans HBW.out.size HB7.out.size) fun k hk => by omega)
      · have h0 : us = [] := List.eq_nil_of_length_eq_zero (by omega)
        subst h0
        go_wp2
        go_ret2
        refine .inr ⟨gl, [], by rw [← HN.out]; rfl, HU.out, HBU.out, ?_, HBW.out, hwg⟩
        rw [← HN.out]
        rw [show LF [] (lenG (cts (nat zs) []) (lim - 1)) = fun _ => 0 by funext s; unfold LF; simp]
        exact HA.out
end Go.Proofs.Ytccfbkbfmkdapaa
