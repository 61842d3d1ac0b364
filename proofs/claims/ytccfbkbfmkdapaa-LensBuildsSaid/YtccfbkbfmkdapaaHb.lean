/-
  Contract: longestAt.
-/
import Derived.Test.YtccfbkbfmkdapaaHa
namespace Go.Proofs.Ytccfbkbfmkdapaa
open Go.RowKit

/-- The sign of the item at a place, how many lengths it tells. -/
def lsym (zs : List Int) (a : Nat) : Int :=
  if zs.getD a 0 = 0 ∧ 11 ≤ rl zs a then 18 else if zs.getD a 0 = 0 ∧ 3 ≤ rl zs a then 17
  else if zs.getD a 0 ≠ 0 ∧ 3 ≤ rl zs a ∧ 0 < a ∧ zs.getD (a - 1) 0 = zs.getD a 0 then 16 else zs.getD a 0
def lmany (zs : List Int) (a : Nat) : Nat := min (rl zs a) (spm (lsym zs a))
theorem spm_le (s : Int) : spm s ≤ 138 := by unfold spm; split <;> (try split) <;> (try split) <;> omega
theorem ret_two {x y : Int} {a b : Int} (h1 : x = a) (h2 : y = b) : Ending.returned (.tuple #[.int .i64 x, .int .i64 y]) = .returned (.tuple #[.int .i64 a, .int .i64 b]) := by rw [h1, h2]

set_option maxHeartbeats 8000000 in
theorem longest_any (ao : Option Addr) (c a : Nat) (zs : List Int) (w : World) (h : IS w ao zs) (ha : a < zs.length) (hl : zs.length ≤ 1000) :
    Calls Try.prog 31 #[.slice ao zs.length c, .int .i64 a] w fun e w' => e = .returned (.tuple #[.int .i64 (lsym zs a), .int .i64 (lmany zs a : Nat)]) ∧ ∃ q, w' = w.drewN q := by
  have HI := Lib.hid h
  have HC : Hid (∀ n, Calls Try.prog 43 #[.slice ao zs.length c, .int .i64 a] (w.drewN n) fun e w' => e = .returned (.int .i64 (min 138 (rl zs a) : Nat)) ∧ ∃ q, w' = (w.drewN n).drewN q) :=
    Lib.hid fun n => same_at ao c a zs _ (h.drewN n) ha hl
  clear h
  have HLY := Lib.hid (show lmany zs a = min (rl zs a) (spm (lsym zs a)) from rfl)
  have HLS := Lib.hid (show lsym zs a = if zs.getD a 0 = 0 ∧ 11 ≤ rl zs a then 18 else if zs.getD a 0 = 0 ∧ 3 ≤ rl zs a then 17
  else if zs.getD a 0 ≠ 0 ∧ 3 ≤ rl zs a ∧ 0 < a ∧ zs.getD (a - 1) 0 = zs.getD a 0 then 16 else zs.getD a 0 from rfl)
  obtain ⟨sy, hsy⟩ : ∃ sy, sy = lsym zs a := ⟨_, rfl⟩
  obtain ⟨my, hmy⟩ : ∃ my, my = lmany zs a := ⟨_, rfl⟩
  rw [← hsy] at HLS HLY ⊢
  rw [← hmy] at HLY ⊢
  clear hsy hmy
  obtain ⟨L, hL⟩ : ∃ L, L = zs.length := ⟨_, rfl⟩
  have HLN := Lib.hid hL
  rw [← hL] at ha hl HC ⊢
  clear hL
  have ha' : (a : Int) < L := by omega
  obtain ⟨r, hr⟩ : ∃ r, r = rl zs a := ⟨_, rfl⟩
  rw [← hr] at HC HLS HLY
  clear hr
  obtain ⟨n, hn⟩ : ∃ n, n = min 138 r := ⟨_, rfl⟩
  rw [← hn] at HC
  have HN := Lib.hid hn
  have hn3 : n ≤ 138 := by omega
  clear hn
  obtain ⟨b1, o1, rfl, q1⟩ := HI.out.at (k := a) (by rw [← HLN.out]; exact ha)
  obtain ⟨x, hx⟩ : ∃ x, x = zs.getD a 0 := ⟨_, rfl⟩
  rw [← hx] at q1 HLS
  clear hx
  by_cases ca : a = 0
  · subst ca
    have HA : Hid (¬ (0 < 0 ∧ zs.getD (0 - 1) 0 = x)) := Lib.hid (fun k => by omega)
    have HQ := Lib.hid True.intro
    rw [Nat.add_zero] at q1
    by_cases cx : x = 0
    · subst cx
      by_cases c11 : 11 ≤ n
      · have c11' : (11 : Int) ≤ n := by omega
        have HSY : Hid (sy = 18) := Lib.hid (by have h := HLS.out; have h2 := HN.out; rw [h, if_pos ⟨rfl, by omega⟩])
        have HF : Hid ((18 : Int) = sy ∧ ((min n (spm 18) : Nat) : Int) = my) := Lib.hid ⟨HSY.out.symm, by have h := HLY.out; have h2 := HN.out; have h3 := spm_le 18; rw [HSY.out] at h; omega⟩
        obtain ⟨sp, hsp⟩ : ∃ sp, sp = spm 18 := ⟨_, rfl⟩
        have HSP := Lib.hid hsp.symm
        have hsp2 : sp ≤ 138 := by rw [hsp]; exact spm_le _
        rw [← hsp] at HF
        clear hsp
        go_enter Try.func31, Try.ntmps31
        go_wp2
        go_quiet ((go_at_call 43; exact Calls.quiet_of (HC.out _)))
        clear q1
        clear HC
        have HG : Hid (∀ m, ∃ q, (w.drewN nq).drewN m = w.drewN q) := Lib.hid fun m => ⟨_, World.drewN_drewN _ _ _⟩
        generalize w.drewN nq = w2 at *
        go_wp2_with (first
          | (go_at_call 32; (refine (span_any _ _).mono ?_); rintro e w9 ⟨rfl, rfl⟩; rw [HSP.out]))
        all_goals go_ret2
        all_goals exact ⟨ret_two HF.out.1 (by have h9 := HF.out.2; omega), HG.out 0⟩
      · have c11' : decide ((11 : Int) ≤ n) = false := decide_eq_false (by omega)
        have c11'' : (n : Int) < 11 := by omega
        by_cases c3 : 3 ≤ n
        · have c3' : (3 : Int) ≤ n := by omega
          have HSY : Hid (sy = 17) := Lib.hid (by have h := HLS.out; have h2 := HN.out; rw [h, if_neg (by omega), if_pos ⟨rfl, by omega⟩])
          have HF : Hid ((17 : Int) = sy ∧ ((min n (spm 17) : Nat) : Int) = my) := Lib.hid ⟨HSY.out.symm, by have h := HLY.out; have h2 := HN.out; have h3 := spm_le 17; rw [HSY.out] at h; omega⟩
          obtain ⟨sp, hsp⟩ : ∃ sp, sp = spm 17 := ⟨_, rfl⟩
          have HSP := Lib.hid hsp.symm
          have hsp2 : sp ≤ 138 := by rw [hsp]; exact spm_le _
          rw [← hsp] at HF
          clear hsp
          go_enter Try.func31, Try.ntmps31
          go_wp2
          go_quiet ((go_at_call 43; exact Calls.quiet_of (HC.out _)))
          clear q1
          clear HC
          have HG : Hid (∀ m, ∃ q, (w.drewN nq).drewN m = w.drewN q) := Lib.hid fun m => ⟨_, World.drewN_drewN _ _ _⟩
          generalize w.drewN nq = w2 at *
          go_wp2_with (first
            | (go_at_call 32; (refine (span_any _ _).mono ?_); rintro e w9 ⟨rfl, rfl⟩; rw [HSP.out]))
          all_goals go_ret2
          all_goals exact ⟨ret_two HF.out.1 (by have h9 := HF.out.2; omega), HG.out 0⟩
        · have c3' : decide ((3 : Int) ≤ n) = false := decide_eq_false (by omega)
          have c3'' : (n : Int) < 3 := by omega
          have HSY : Hid (sy = 0) := Lib.hid (by have h := HLS.out; have h2 := HN.out; rw [h, if_neg (by omega), if_neg (by omega), if_neg (by omega)])
          have HF : Hid ((0 : Int) = sy ∧ ((min n (spm 0) : Nat) : Int) = my) := Lib.hid ⟨HSY.out.symm, by have h := HLY.out; have h2 := HN.out; have h3 := spm_le 0; rw [HSY.out] at h; omega⟩
          obtain ⟨sp, hsp⟩ : ∃ sp, sp = spm 0 := ⟨_, rfl⟩
          have HSP := Lib.hid hsp.symm
          have hsp2 : sp ≤ 138 := by rw [hsp]; exact spm_le _
          rw [← hsp] at HF
          clear hsp
          go_enter Try.func31, Try.ntmps31
          go_wp2
          go_quiet ((go_at_call 43; exact Calls.quiet_of (HC.out _)))
          clear q1
          clear HC
          have HG : Hid (∀ m, ∃ q, (w.drewN nq).drewN m = w.drewN q) := Lib.hid fun m => ⟨_, World.drewN_drewN _ _ _⟩
          generalize w.drewN nq = w2 at *
          go_wp2_with (first
            | (go_at_call 32; (refine (span_any _ _).mono ?_); rintro e w9 ⟨rfl, rfl⟩; rw [HSP.out]))
          all_goals go_ret2
          all_goals exact ⟨ret_two HF.out.1 (by have h9 := HF.out.2; omega), HG.out 0⟩
    · have cx' : (x == 0) = false := by simp [cx]
      have HX := Lib.hid cx
      clear cx
      by_cases c3 : 3 ≤ n
      · have c3' : (3 : Int) ≤ n := by omega
        have HSY : Hid (sy = x) := Lib.hid (by have h := HLS.out; have h2 := HN.out; rw [h, if_neg (fun k => HX.out k.1), if_neg (fun k => HX.out k.1), if_neg (fun k => HA.out k.2.2)])
        have HF : Hid ((x : Int) = sy ∧ ((min n (spm x) : Nat) : Int) = my) := Lib.hid ⟨HSY.out.symm, by have h := HLY.out; have h2 := HN.out; have h3 := spm_le x; rw [HSY.out] at h; omega⟩
        obtain ⟨sp, hsp⟩ : ∃ sp, sp = spm x := ⟨_, rfl⟩
        have HSP := Lib.hid hsp.symm
        have hsp2 : sp ≤ 138 := by rw [hsp]; exact spm_le _
        rw [← hsp] at HF
        clear hsp
        go_enter Try.func31, Try.ntmps31
        go_wp2
        go_quiet ((go_at_call 43; exact Calls.quiet_of (HC.out _)))
        clear q1
        clear HC
        have HG : Hid (∀ m, ∃ q, (w.drewN nq).drewN m = w.drewN q) := Lib.hid fun m => ⟨_, World.drewN_drewN _ _ _⟩
        generalize w.drewN nq = w2 at *
        go_wp2_with (first
          | (go_at_call 32; (refine (span_any _ _).mono ?_); rintro e w9 ⟨rfl, rfl⟩; rw [HSP.out]))
        all_goals go_ret2
        all_goals exact ⟨ret_two HF.out.1 (by have h9 := HF.out.2; omega), HG.out 0⟩
      · have c3' : decide ((3 : Int) ≤ n) = false := decide_eq_false (by omega)
        have c3'' : (n : Int) < 3 := by omega
        have HSY : Hid (sy = x) := Lib.hid (by have h := HLS.out; have h2 := HN.out; rw [h, if_neg (fun k => HX.out k.1), if_neg (fun k => HX.out k.1), if_neg (by omega)])
        have HF : Hid ((x : Int) = sy ∧ ((min n (spm x) : Nat) : Int) = my) := Lib.hid ⟨HSY.out.symm, by have h := HLY.out; have h2 := HN.out; have h3 := spm_le x; rw [HSY.out] at h; omega⟩
        obtain ⟨sp, hsp⟩ : ∃ sp, sp = spm x := ⟨_, rfl⟩
        have HSP := Lib.hid hsp.symm
        have hsp2 : sp ≤ 138 := by rw [hsp]; exact spm_le _
        rw [← hsp] at HF
        clear hsp
        go_enter Try.func31, Try.ntmps31
        go_wp2
        go_quiet ((go_at_call 43; exact Calls.quiet_of (HC.out _)))
        clear q1
        clear HC
        have HG : Hid (∀ m, ∃ q, (w.drewN nq).drewN m = w.drewN q) := Lib.hid fun m => ⟨_, World.drewN_drewN _ _ _⟩
        generalize w.drewN nq = w2 at *
        go_wp2_with (first
          | (go_at_call 32; (refine (span_any _ _).mono ?_); rintro e w9 ⟨rfl, rfl⟩; rw [HSP.out]))
        all_goals go_ret2
        all_goals exact ⟨ret_two HF.out.1 (by have h9 := HF.out.2; omega), HG.out 0⟩
  · have ca' : (0 : Int) < a := by omega
    obtain ⟨am, ham⟩ : ∃ am, am = a - 1 := ⟨_, rfl⟩
    have e1 : IntKind.i64.wrap ((a : Int) - 1) = am := by rw [IntKind.wrap_i64]; omega
    have ham2 : (am : Int) < L := by omega
    obtain ⟨y, hy⟩ : ∃ y, y = zs.getD (a - 1) 0 := ⟨_, rfl⟩
    have HQ : Hid (∀ q, (w.drewN q).cell? ⟨b1, o1 + am, none⟩ = some (.int .i64 y)) := Lib.hid fun q => by
      obtain ⟨b2, o2, e2, q2⟩ := (HI.out.drewN q).at (k := am) (by rw [← HLN.out]; omega)
      obtain ⟨rfl, rfl⟩ : b1 = b2 ∧ o1 = o2 := by simpa using e2
      rw [q2, hy, ham]
    have HAP : Hid (0 < a) := Lib.hid (by omega)
    rw [← hy] at HLS
    clear hy ham ca
    by_cases cy : y = x
    · obtain rfl : x = y := cy.symm
      have HA : Hid (0 < a ∧ x = x) := Lib.hid ⟨HAP.out, rfl⟩
      by_cases cx : x = 0
      · subst cx
        by_cases c11 : 11 ≤ n
        · have c11' : (11 : Int) ≤ n := by omega
          have HSY : Hid (sy = 18) := Lib.hid (by have h := HLS.out; have h2 := HN.out; rw [h, if_pos ⟨rfl, by omega⟩])
          have HF : Hid ((18 : Int) = sy ∧ ((min n (spm 18) : Nat) : Int) = my) := Lib.hid ⟨HSY.out.symm, by have h := HLY.out; have h2 := HN.out; have h3 := spm_le 18; rw [HSY.out] at h; omega⟩
          obtain ⟨sp, hsp⟩ : ∃ sp, sp = spm 18 := ⟨_, rfl⟩
          have HSP := Lib.hid hsp.symm
          have hsp2 : sp ≤ 138 := by rw [hsp]; exact spm_le _
          rw [← hsp] at HF
          clear hsp
          go_enter Try.func31, Try.ntmps31
          go_wp2
          go_quiet ((go_at_call 43; exact Calls.quiet_of (HC.out _)))
          clear q1
          have q2 := HQ.out nq
          clear HC
          have HG : Hid (∀ m, ∃ q, (w.drewN nq).drewN m = w.drewN q) := Lib.hid fun m => ⟨_, World.drewN_drewN _ _ _⟩
          generalize w.drewN nq = w2 at *
          go_wp2_with (first
            | (go_at_call 32; (refine (span_any _ _).mono ?_); rintro e w9 ⟨rfl, rfl⟩; rw [HSP.out]))
          all_goals go_ret2
          all_goals exact ⟨ret_two HF.out.1 (by have h9 := HF.out.2; omega), HG.out 0⟩
        · have c11' : decide ((11 : Int) ≤ n) = false := decide_eq_false (by omega)
          have c11'' : (n : Int) < 11 := by omega
          by_cases c3 : 3 ≤ n
          · have c3' : (3 : Int) ≤ n := by omega
            have HSY : Hid (sy = 17) := Lib.hid (by have h := HLS.out; have h2 := HN.out; rw [h, if_neg (by omega), if_pos ⟨rfl, by omega⟩])
            have HF : Hid ((17 : Int) = sy ∧ ((min n (spm 17) : Nat) : Int) = my) := Lib.hid ⟨HSY.out.symm, by have h := HLY.out; have h2 := HN.out; have h3 := spm_le 17; rw [HSY.out] at h; omega⟩
            obtain ⟨sp, hsp⟩ : ∃ sp, sp = spm 17 := ⟨_, rfl⟩
            have HSP := Lib.hid hsp.symm
            have hsp2 : sp ≤ 138 := by rw [hsp]; exact spm_le _
            rw [← hsp] at HF
            clear hsp
            go_enter Try.func31, Try.ntmps31
            go_wp2
            go_quiet ((go_at_call 43; exact Calls.quiet_of (HC.out _)))
            clear q1
            have q2 := HQ.out nq
            clear HC
            have HG : Hid (∀ m, ∃ q, (w.drewN nq).drewN m = w.drewN q) := Lib.hid fun m => ⟨_, World.drewN_drewN _ _ _⟩
            generalize w.drewN nq = w2 at *
            go_wp2_with (first
              | (go_at_call 32; (refine (span_any _ _).mono ?_); rintro e w9 ⟨rfl, rfl⟩; rw [HSP.out]))
            all_goals go_ret2
            all_goals exact ⟨ret_two HF.out.1 (by have h9 := HF.out.2; omega), HG.out 0⟩
          · have c3' : decide ((3 : Int) ≤ n) = false := decide_eq_false (by omega)
            have c3'' : (n : Int) < 3 := by omega
            have HSY : Hid (sy = 0) := Lib.hid (by have h := HLS.out; have h2 := HN.out; rw [h, if_neg (by omega), if_neg (by omega), if_neg (by omega)])
            have HF : Hid ((0 : Int) = sy ∧ ((min n (spm 0) : Nat) : Int) = my) := Lib.hid ⟨HSY.out.symm, by have h := HLY.out; have h2 := HN.out; have h3 := spm_le 0; rw [HSY.out] at h; omega⟩
            obtain ⟨sp, hsp⟩ : ∃ sp, sp = spm 0 := ⟨_, rfl⟩
            have HSP := Lib.hid hsp.symm
            have hsp2 : sp ≤ 138 := by rw [hsp]; exact spm_le _
            rw [← hsp] at HF
            clear hsp
            go_enter Try.func31, Try.ntmps31
            go_wp2
            go_quiet ((go_at_call 43; exact Calls.quiet_of (HC.out _)))
            clear q1
            have q2 := HQ.out nq
            clear HC
            have HG : Hid (∀ m, ∃ q, (w.drewN nq).drewN m = w.drewN q) := Lib.hid fun m => ⟨_, World.drewN_drewN _ _ _⟩
            generalize w.drewN nq = w2 at *
            go_wp2_with (first
              | (go_at_call 32; (refine (span_any _ _).mono ?_); rintro e w9 ⟨rfl, rfl⟩; rw [HSP.out]))
            all_goals go_ret2
            all_goals exact ⟨ret_two HF.out.1 (by have h9 := HF.out.2; omega), HG.out 0⟩
      · have cx' : (x == 0) = false := by simp [cx]
        have HX := Lib.hid cx
        clear cx
        by_cases c3 : 3 ≤ n
        · have c3' : (3 : Int) ≤ n := by omega
          have HSY : Hid (sy = 16) := Lib.hid (by have h := HLS.out; have h2 := HN.out; rw [h, if_neg (fun k => HX.out k.1), if_neg (fun k => HX.out k.1), if_pos ⟨HX.out, by omega, HA.out.1, HA.out.2⟩])
          have HF : Hid ((16 : Int) = sy ∧ ((min n (spm 16) : Nat) : Int) = my) := Lib.hid ⟨HSY.out.symm, by have h := HLY.out; have h2 := HN.out; have h3 := spm_le 16; rw [HSY.out] at h; omega⟩
          obtain ⟨sp, hsp⟩ : ∃ sp, sp = spm 16 := ⟨_, rfl⟩
          have HSP := Lib.hid hsp.symm
          have hsp2 : sp ≤ 138 := by rw [hsp]; exact spm_le _
          rw [← hsp] at HF
          clear hsp
          go_enter Try.func31, Try.ntmps31
          go_wp2
          go_quiet ((go_at_call 43; exact Calls.quiet_of (HC.out _)))
          clear q1
          have q2 := HQ.out nq
          clear HC
          have HG : Hid (∀ m, ∃ q, (w.drewN nq).drewN m = w.drewN q) := Lib.hid fun m => ⟨_, World.drewN_drewN _ _ _⟩
          generalize w.drewN nq = w2 at *
          go_wp2_with (first
            | (go_at_call 32; (refine (span_any _ _).mono ?_); rintro e w9 ⟨rfl, rfl⟩; rw [HSP.out]))
          all_goals go_ret2
          all_goals exact ⟨ret_two HF.out.1 (by have h9 := HF.out.2; omega), HG.out 0⟩
        · have c3' : decide ((3 : Int) ≤ n) = false := decide_eq_false (by omega)
          have c3'' : (n : Int) < 3 := by omega
          have HSY : Hid (sy = x) := Lib.hid (by have h := HLS.out; have h2 := HN.out; rw [h, if_neg (fun k => HX.out k.1), if_neg (fun k => HX.out k.1), if_neg (by omega)])
          have HF : Hid ((x : Int) = sy ∧ ((min n (spm x) : Nat) : Int) = my) := Lib.hid ⟨HSY.out.symm, by have h := HLY.out; have h2 := HN.out; have h3 := spm_le x; rw [HSY.out] at h; omega⟩
          obtain ⟨sp, hsp⟩ : ∃ sp, sp = spm x := ⟨_, rfl⟩
          have HSP := Lib.hid hsp.symm
          have hsp2 : sp ≤ 138 := by rw [hsp]; exact spm_le _
          rw [← hsp] at HF
          clear hsp
          go_enter Try.func31, Try.ntmps31
          go_wp2
          go_quiet ((go_at_call 43; exact Calls.quiet_of (HC.out _)))
          clear q1
          have q2 := HQ.out nq
          clear HC
          have HG : Hid (∀ m, ∃ q, (w.drewN nq).drewN m = w.drewN q) := Lib.hid fun m => ⟨_, World.drewN_drewN _ _ _⟩
          generalize w.drewN nq = w2 at *
          go_wp2_with (first
            | (go_at_call 32; (refine (span_any _ _).mono ?_); rintro e w9 ⟨rfl, rfl⟩; rw [HSP.out]))
          all_goals go_ret2
          all_goals exact ⟨ret_two HF.out.1 (by have h9 := HF.out.2; omega), HG.out 0⟩
    · have cy' : (y == x) = false := by simp [cy]
      have HA : Hid (¬ (0 < a ∧ y = x)) := Lib.hid (fun k => cy k.2)
      clear cy
      by_cases cx : x = 0
      · subst cx
        by_cases c11 : 11 ≤ n
        · have c11' : (11 : Int) ≤ n := by omega
          have HSY : Hid (sy = 18) := Lib.hid (by have h := HLS.out; have h2 := HN.out; rw [h, if_pos ⟨rfl, by omega⟩])
          have HF : Hid ((18 : Int) = sy ∧ ((min n (spm 18) : Nat) : Int) = my) := Lib.hid ⟨HSY.out.symm, by have h := HLY.out; have h2 := HN.out; have h3 := spm_le 18; rw [HSY.out] at h; omega⟩
          obtain ⟨sp, hsp⟩ : ∃ sp, sp = spm 18 := ⟨_, rfl⟩
          have HSP := Lib.hid hsp.symm
          have hsp2 : sp ≤ 138 := by rw [hsp]; exact spm_le _
          rw [← hsp] at HF
          clear hsp
          go_enter Try.func31, Try.ntmps31
          go_wp2
          go_quiet ((go_at_call 43; exact Calls.quiet_of (HC.out _)))
          clear q1
          have q2 := HQ.out nq
          clear HC
          have HG : Hid (∀ m, ∃ q, (w.drewN nq).drewN m = w.drewN q) := Lib.hid fun m => ⟨_, World.drewN_drewN _ _ _⟩
          generalize w.drewN nq = w2 at *
          go_wp2_with (first
            | (go_at_call 32; (refine (span_any _ _).mono ?_); rintro e w9 ⟨rfl, rfl⟩; rw [HSP.out]))
          all_goals go_ret2
          all_goals exact ⟨ret_two HF.out.1 (by have h9 := HF.out.2; omega), HG.out 0⟩
        · have c11' : decide ((11 : Int) ≤ n) = false := decide_eq_false (by omega)
          have c11'' : (n : Int) < 11 := by omega
          by_cases c3 : 3 ≤ n
          · have c3' : (3 : Int) ≤ n := by omega
            have HSY : Hid (sy = 17) := Lib.hid (by have h := HLS.out; have h2 := HN.out; rw [h, if_neg (by omega), if_pos ⟨rfl, by omega⟩])
            have HF : Hid ((17 : Int) = sy ∧ ((min n (spm 17) : Nat) : Int) = my) := Lib.hid ⟨HSY.out.symm, by have h := HLY.out; have h2 := HN.out; have h3 := spm_le 17; rw [HSY.out] at h; omega⟩
            obtain ⟨sp, hsp⟩ : ∃ sp, sp = spm 17 := ⟨_, rfl⟩
            have HSP := Lib.hid hsp.symm
            have hsp2 : sp ≤ 138 := by rw [hsp]; exact spm_le _
            rw [← hsp] at HF
            clear hsp
            go_enter Try.func31, Try.ntmps31
            go_wp2
            go_quiet ((go_at_call 43; exact Calls.quiet_of (HC.out _)))
            clear q1
            have q2 := HQ.out nq
            clear HC
            have HG : Hid (∀ m, ∃ q, (w.drewN nq).drewN m = w.drewN q) := Lib.hid fun m => ⟨_, World.drewN_drewN _ _ _⟩
            generalize w.drewN nq = w2 at *
            go_wp2_with (first
              | (go_at_call 32; (refine (span_any _ _).mono ?_); rintro e w9 ⟨rfl, rfl⟩; rw [HSP.out]))
            all_goals go_ret2
            all_goals exact ⟨ret_two HF.out.1 (by have h9 := HF.out.2; omega), HG.out 0⟩
          · have c3' : decide ((3 : Int) ≤ n) = false := decide_eq_false (by omega)
            have c3'' : (n : Int) < 3 := by omega
            have HSY : Hid (sy = 0) := Lib.hid (by have h := HLS.out; have h2 := HN.out; rw [h, if_neg (by omega), if_neg (by omega), if_neg (by omega)])
            have HF : Hid ((0 : Int) = sy ∧ ((min n (spm 0) : Nat) : Int) = my) := Lib.hid ⟨HSY.out.symm, by have h := HLY.out; have h2 := HN.out; have h3 := spm_le 0; rw [HSY.out] at h; omega⟩
            obtain ⟨sp, hsp⟩ : ∃ sp, sp = spm 0 := ⟨_, rfl⟩
            have HSP := Lib.hid hsp.symm
            have hsp2 : sp ≤ 138 := by rw [hsp]; exact spm_le _
            rw [← hsp] at HF
            clear hsp
            go_enter Try.func31, Try.ntmps31
            go_wp2
            go_quiet ((go_at_call 43; exact Calls.quiet_of (HC.out _)))
            clear q1
            have q2 := HQ.out nq
            clear HC
            have HG : Hid (∀ m, ∃ q, (w.drewN nq).drewN m = w.drewN q) := Lib.hid fun m => ⟨_, World.drewN_drewN _ _ _⟩
            generalize w.drewN nq = w2 at *
            go_wp2_with (first
              | (go_at_call 32; (refine (span_any _ _).mono ?_); rintro e w9 ⟨rfl, rfl⟩; rw [HSP.out]))
            all_goals go_ret2
            all_goals exact ⟨ret_two HF.out.1 (by have h9 := HF.out.2; omega), HG.out 0⟩
      · have cx' : (x == 0) = false := by simp [cx]
        have HX := Lib.hid cx
        clear cx
        by_cases c3 : 3 ≤ n
        · have c3' : (3 : Int) ≤ n := by omega
          have HSY : Hid (sy = x) := Lib.hid (by have h := HLS.out; have h2 := HN.out; rw [h, if_neg (fun k => HX.out k.1), if_neg (fun k => HX.out k.1), if_neg (fun k => HA.out k.2.2)])
          have HF : Hid ((x : Int) = sy ∧ ((min n (spm x) : Nat) : Int) = my) := Lib.hid ⟨HSY.out.symm, by have h := HLY.out; have h2 := HN.out; have h3 := spm_le x; rw [HSY.out] at h; omega⟩
          obtain ⟨sp, hsp⟩ : ∃ sp, sp = spm x := ⟨_, rfl⟩
          have HSP := Lib.hid hsp.symm
          have hsp2 : sp ≤ 138 := by rw [hsp]; exact spm_le _
          rw [← hsp] at HF
          clear hsp
          go_enter Try.func31, Try.ntmps31
          go_wp2
          go_quiet ((go_at_call 43; exact Calls.quiet_of (HC.out _)))
          clear q1
          have q2 := HQ.out nq
          clear HC
          have HG : Hid (∀ m, ∃ q, (w.drewN nq).drewN m = w.drewN q) := Lib.hid fun m => ⟨_, World.drewN_drewN _ _ _⟩
          generalize w.drewN nq = w2 at *
          go_wp2_with (first
            | (go_at_call 32; (refine (span_any _ _).mono ?_); rintro e w9 ⟨rfl, rfl⟩; rw [HSP.out]))
          all_goals go_ret2
          all_goals exact ⟨ret_two HF.out.1 (by have h9 := HF.out.2; omega), HG.out 0⟩
        · have c3' : decide ((3 : Int) ≤ n) = false := decide_eq_false (by omega)
          have c3'' : (n : Int) < 3 := by omega
          have HSY : Hid (sy = x) := Lib.hid (by have h := HLS.out; have h2 := HN.out; rw [h, if_neg (fun k => HX.out k.1), if_neg (fun k => HX.out k.1), if_neg (by omega)])
          have HF : Hid ((x : Int) = sy ∧ ((min n (spm x) : Nat) : Int) = my) := Lib.hid ⟨HSY.out.symm, by have h := HLY.out; have h2 := HN.out; have h3 := spm_le x; rw [HSY.out] at h; omega⟩
          obtain ⟨sp, hsp⟩ : ∃ sp, sp = spm x := ⟨_, rfl⟩
          have HSP := Lib.hid hsp.symm
          have hsp2 : sp ≤ 138 := by rw [hsp]; exact spm_le _
          rw [← hsp] at HF
          clear hsp
          go_enter Try.func31, Try.ntmps31
          go_wp2
          go_quiet ((go_at_call 43; exact Calls.quiet_of (HC.out _)))
          clear q1
          have q2 := HQ.out nq
          clear HC
          have HG : Hid (∀ m, ∃ q, (w.drewN nq).drewN m = w.drewN q) := Lib.hid fun m => ⟨_, World.drewN_drewN _ _ _⟩
          generalize w.drewN nq = w2 at *
          go_wp2_with (first
            | (go_at_call 32; (refine (span_any _ _).mono ?_); rintro e w9 ⟨rfl, rfl⟩; rw [HSP.out]))
          all_goals go_ret2
          all_goals exact ⟨ret_two HF.out.1 (by have h9 := HF.out.2; omega), HG.out 0⟩
end Go.Proofs.Ytccfbkbfmkdapaa
