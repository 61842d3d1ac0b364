/-
  The document's own Next.
-/
import Derived.Test.YtmnkdnlmpgmdgaaDoorUw1
import Derived.Deep.Cut
namespace Go.Proofs.YtmnkdnlmpgmdgaaDoor
open Go.RowKit U
set_option maxRecDepth 100000

theorem valid_sign (v : Nat) : Lib.validRune (v : Int) = decide (isSign v) := by
  by_cases h : isSign v
  · rw [decide_eq_true h]
    obtain ⟨h1, h2⟩ := h
    unfold Lib.validRune
    exact decide_eq_true (by omega)
  · rw [decide_eq_false h]
    unfold Lib.validRune
    exact decide_eq_false (fun h' => h (by unfold isSign; omega))
theorem rvF_succ (L : List Nat) (i : Nat) (h : 1 ≤ i) : rvF L (i + 1) = rvF L i * 64 + L.getD i 0 % 64 := by
  obtain ⟨j, rfl⟩ : ∃ j, i = j + 1 := ⟨i - 1, by omega⟩
  rfl
theorem take_eq_at {L E : List Nat} {k : Nat} (hk : k < L.length) (he : k < E.length) (h : L.take k = E.take k) (hx : L.getD k 0 = E.getD k 0) : L.take (k + 1) = E.take (k + 1) := by
  rw [take_next L k hk, take_next E k he, h, hx]

set_option maxHeartbeats 12800000 in
theorem rNext_any (ao : Option Addr) (c : Nat) (xs : List Nat) (at_ : Int) (w : World) (h : Sl w ao c xs) (hm : xs.length ≤ 1000000000) :
    Calls Tryd.prog 11 #[.slice ao xs.length c, .int .i64 at_] w fun e w' => e = .returned (.tuple #[.int .i64 ((nxF xs at_).1 : Nat), .int .i64 ((nxF xs at_).2 : Nat)]) ∧ Below w.heap.size w w' := by
  by_cases c1 : at_ < 0
  · have e : nxF xs at_ = (0, 0) := by unfold nxF; rw [if_pos c1]
    rw [e]
    clear h e
    go_enter Tryd.func11, Tryd.ntmps11
    go_wp2
    go_ret2
    exact ⟨rfl, Below.refl _ _⟩
  by_cases c2 : (xs.length : Int) ≤ at_
  · have e : nxF xs at_ = (0, 0) := by unfold nxF; rw [if_neg c1, List.drop_eq_nil_of_le (by omega)]; rfl
    rw [e]
    clear h e
    go_enter Tryd.func11, Tryd.ntmps11
    go_wp2
    go_ret2
    exact ⟨rfl, Below.refl _ _⟩
  obtain ⟨p, rfl⟩ : ∃ p : Nat, at_ = (p : Int) := ⟨at_.toNat, by omega⟩
  have hp : p < xs.length := by omega
  rcases h.src with h0 | ⟨b, off, rfl, hc⟩
  · rw [h0] at hp; simp at hp
  obtain ⟨L, hL⟩ : ∃ L, L = xs.drop p := ⟨_, rfl⟩
  have hLl : L.length = xs.length - p := by rw [hL]; simp
  have hbs : Bs L := by rw [hL]; exact h.bs.drop p
  have hcell : ∀ (W : World), Below w.heap.size w W → ∀ i, i < L.length → W.cell? ⟨b, off + (p + i), none⟩ = some (.int .u8 (L.getD i 0 : Nat)) := fun W hW i hi => by
    have h1 := hc (p + i) (by omega)
    rw [(hW.cell (World.block_lt_of_cell? w _ h1)).trans h1, hL]
    simp [List.getD]
  have HCELL := Lib.hid hcell
  have hRR : nxF xs (p : Int) = rfN L := by rw [nxF_nat, ← hL, rfN_nx hbs]
  obtain ⟨R, hR⟩ : ∃ R, R = nxF xs (p : Int) := ⟨_, rfl⟩
  rw [← hR] at hRR ⊢
  have HB := Lib.hid hbs
  have hc0 := hcell w (Below.refl _ _) 0 (by omega)
  rw [Nat.add_zero] at hc0
  have ha := hbs.at 0
  obtain ⟨a, hae⟩ : ∃ a, a = L.getD 0 0 := ⟨_, rfl⟩
  rw [← hae] at hc0 ha
  unfold rfN at hRR
  rw [← hae] at hRR
  have HAE := Lib.hid hae
  obtain ⟨n, hn⟩ : ∃ n, n = xs.length := ⟨_, rfl⟩
  rw [← hn] at hm hp hLl c2 ⊢
  have HLL := Lib.hid hLl
  clear h hL hbs hR hc hcell hae hn c1
  have hcase : (rn a = 0 ∧ 128 ≤ a ∧ a < 192) ∨ (rn a = 1 ∧ rv0 a = a ∧ a < 128) ∨ (rn a = 2 ∧ rv0 a = a - 192 ∧ 192 ≤ a ∧ a < 224) ∨ (rn a = 3 ∧ rv0 a = a - 224 ∧ 224 ≤ a ∧ a < 240) ∨ (rn a = 4 ∧ rv0 a = a - 240 ∧ 240 ≤ a) := by
    unfold rn rv0
    by_cases k1 : 240 ≤ a
    · simp [k1]
    by_cases k2 : 224 ≤ a
    · simp [k1, k2]; omega
    by_cases k3 : 192 ≤ a
    · simp [k1, k2, k3]; omega
    by_cases k4 : 128 ≤ a
    · simp [k1, k2, k3, k4]; omega
    · simp [k1, k2, k3, k4]; omega
  rcases hcase with ⟨q1, q2, q3⟩ | hcase
  · have HR : Hid (R = (0, 0)) := Lib.hid (by rw [hRR, q1, if_pos (.inl rfl)])
    have z1 : ¬ (240 : Int) ≤ a := by omega
    have z2 : ¬ (224 : Int) ≤ a := by omega
    have z3 : ¬ (192 : Int) ≤ a := by omega
    have z4 : (128 : Int) ≤ a := by omega
    clear hRR q1 q2 q3 hLl ha
    go_enter Tryd.func11, Tryd.ntmps11
    go_wp2
    go_ret2
    exact ⟨by rw [HR.out]; rfl, Below.refl _ _⟩
  rcases hcase with ⟨q1, q2, q3⟩ | ⟨q1, q2, q3⟩ | ⟨q1, q2, q3⟩ | ⟨q1, q2, q3⟩
  · have hV0 : rvF L 1 = rv0 a := by rw [HAE.out]; rfl
    rw [q2] at hV0
    rw [q1] at hRR
    obtain ⟨V0, hV0e⟩ : ∃ V0, V0 = a := ⟨_, rfl⟩
    rw [← hV0e] at hV0
    have HV0 := Lib.hid hV0
    have hVb : V0 < 128 := by omega
    have z1 : ¬ (240 : Int) ≤ a := by omega
    have z2 : ¬ (224 : Int) ≤ a := by omega
    have z3 : ¬ (192 : Int) ≤ a := by omega
    have z4 : ¬ (128 : Int) ≤ a := by omega
    subst hV0e
    clear q1 q2 q3 hV0 ha
    obtain ⟨M, hM⟩ : ∃ M, M = n - p := ⟨_, rfl⟩
    have HLM : Hid (L.length = M) := Lib.hid (by rw [hM]; exact HLL.out)
    have hnp : IntKind.i64.wrap ((n : Int) - p) = (M : Int) := by rw [IntKind.wrap_i64]; omega
    have hpm : p + M = n := by omega
    have hpm2 : (p : Int) + M ≤ 1000000000 := by omega
    go_enter Tryd.func11, Tryd.ntmps11
    go_upto_region 17 with fail
    by_cases q : M < 1
    · have q1 : (M : Int) < 1 := by omega
      have HR : Hid (R = (0, 0)) := Lib.hid (by rw [hRR, if_pos (.inr (by rw [HLM.out]; exact q))])
      clear hRR hLl hM hpm hpm2 q
      go_wp2
      go_ret2
      exact ⟨by rw [HR.out]; rfl, Below.refl _ _⟩
    have q1 : ¬ (M : Int) < 1 := by omega
    have hR1 := hRR
    rw [if_neg (show ¬ (1 = 0 ∨ L.length < 1) by rw [HLM.out]; omega)] at hR1
    have HR1 := Lib.hid hR1
    have hMN : 1 ≤ M := by omega
    clear hRR hR1 hLl hM q
    go_wp2
    go_loop [8, 9] (fun v8 v9 => ∃ i v : Nat, ((i = 1 ∧ v < 128) ∨ (i = 2 ∧ v < 8256) ∨ (i = 3 ∧ v < 528448) ∨ (i = 4 ∧ v < 33820736)) ∧ i ≤ 1 ∧ v9 = .int .i64 i ∧ v8 = .int .i64 v ∧ Hid (rvF L i = v)) (fun _ v9 => 5 - (intOf v9).toNat)
    case atStart => exact ⟨1, V0, by omega, by omega, rfl, rfl, HV0⟩
    case round =>
      obtain ⟨i, v, hv, hi, rfl, rfl, hrel⟩ := hrel
      by_cases hlt : i < 1
      · have hii : (i : Int) < 1 := by omega
        have hci := HCELL.out w (Below.refl _ _) i (by rw [HLM.out]; omega)
        have hst := rvF_succ L i (by omega)
        rw [hrel.out] at hst
        have hxb := HB.out.at i
        obtain ⟨x, hx⟩ : ∃ x, x = L.getD i 0 := ⟨_, rfl⟩
        rw [← hx] at hci hst hxb
        obtain ⟨j, hj⟩ : ∃ j, j = p + i := ⟨_, rfl⟩
        rw [← hj] at hci
        have hjs : IntKind.i64.wrap ((p : Int) + i) = (j : Int) := by rw [IntKind.wrap_i64]; omega
        have hjn : (j : Int) < n := by omega
        obtain ⟨u1, hu1⟩ : ∃ u1, u1 = v * 64 := ⟨_, rfl⟩
        obtain ⟨u2, hu2⟩ : ∃ u2, u2 = u1 + x % 64 := ⟨_, rfl⟩
        have hw1 : IntKind.i64.wrap ((v : Int) * 64) = (u1 : Int) := by rw [IntKind.wrap_i64]; omega
        have hw2 : IntKind.i64.wrap ((u1 : Int) + (x : Int) % 64) = (u2 : Int) := by rw [IntKind.wrap_i64]; omega
        have hvn : ((i + 1 = 1 ∧ u2 < 128) ∨ (i + 1 = 2 ∧ u2 < 8256) ∨ (i + 1 = 3 ∧ u2 < 528448) ∨ (i + 1 = 4 ∧ u2 < 33820736)) := by omega
        have HVN := Lib.hid hvn
        have HN2 : Hid (rvF L (i + 1) = u2) := Lib.hid (by rw [hst, hu2, hu1])
        clear hst hx hj hu1 hu2 hvn hv hrel
        go_wp2
        go_round
        case rel => exact ⟨i + 1, u2, HVN.out, by omega, by go_num, by go_num, HN2⟩
        case measure => simp [intOf]; omega
      · obtain rfl : i = 1 := by omega
        have HR2 := HR1.out
        rw [hrel.out] at HR2
        have HR2 := Lib.hid HR2
        have KS := Lib.hid fun W => rSign_any (v : Int) W
        have hvv := valid_sign v
        rw [hvv] at KS
        clear hv hvv HR1 hrel
        by_cases hsg : isSign v
        · rw [decide_eq_true hsg] at KS
          have KB := rBytes_any v hsg w
          have HR3 := HR2.out
          rw [if_neg (by simpa using hsg)] at HR3
          have hel := enc_le v
          unfold SlTo at KB
          obtain ⟨E, hE⟩ : ∃ E, E = enc v := ⟨_, rfl⟩
          rw [← hE] at KB HR3 hel
          obtain ⟨ev, hev⟩ : ∃ ev, ev = E.length := ⟨_, rfl⟩
          rw [← hev] at KB HR3 hel
          have KB := Lib.hid KB
          have HEV := Lib.hid hev
          have HR3 := Lib.hid HR3
          clear hE hsg HR2 hev
          by_cases hle : ev = 1
          · subst hle
            have HR4 : Hid (R = if L.take 1 ≠ E then (0, 0) else (v, 1)) := Lib.hid (by have := HR3.out; rwa [if_neg (by simp)] at this)
            clear HR3 hel
            go_wp2_with (first
              | (go_at_call 16; (with_reducible refine (KS.out _).mono ?_); rintro e wq ⟨rfl, rfl⟩)
              | (go_at_call 17; (with_reducible refine KB.out.mono ?_); rintro e w2 ⟨a2, c2', rfl, hs2, hb2⟩; have HS2 := Lib.hid hs2; have HB2 := Lib.hid hb2; clear hs2 hb2))
            go_loopg [11] 1 (fun gh v11 wr => ∃ (k q : Nat), k ≤ 1 ∧ 1 - k ≤ gh ∧ v11 = .int .i64 (k : Nat) ∧ wr = w2.drewN q ∧ Hid (L.take k = E.take k))
            case atStart => exact ⟨0, 0, by omega, by omega, rfl, rfl, Lib.hid rfl⟩
            case round =>
              obtain ⟨k, q, hk, hgh, rfl, rfl, hrel⟩ := hrel
              by_cases hlt : k < 1
              · have hkk : (k : Int) < 1 := by omega
                have e1 := HCELL.out w2 HB2.out k (by rw [HLM.out]; omega)
                rcases HS2.out.src with h0 | ⟨b2, o2, rfl, hc2⟩
                · rw [h0] at HEV; exact absurd HEV.out (by simp)
                have e2 := hc2 k (by rw [← HEV.out]; exact hlt)
                have htk := fun h => take_eq_at (L := L) (E := E) (k := k) (by rw [HLM.out]; omega) (by rw [← HEV.out]; exact hlt) hrel.out h
                have hneq : L.getD k 0 ≠ E.getD k 0 → L.take 1 ≠ E := fun hx he => hx (by
                  have := congrArg (fun l => List.getD l k 0) he
                  simpa [List.getD, List.getElem?_take, hlt] using this)
                obtain ⟨x, hx⟩ : ∃ x, x = L.getD k 0 := ⟨_, rfl⟩
                obtain ⟨y, hy⟩ : ∃ y, y = E.getD k 0 := ⟨_, rfl⟩
                rw [← hx] at e1 htk hneq
                rw [← hy] at e2 htk hneq
                obtain ⟨j, hj⟩ : ∃ j, j = p + k := ⟨_, rfl⟩
                rw [← hj] at e1
                have hjs : IntKind.i64.wrap ((p : Int) + k) = (j : Int) := by rw [IntKind.wrap_i64]; omega
                have hjn : (j : Int) < n := by omega
                have HTK := Lib.hid htk
                have HNE := Lib.hid hneq
                obtain ⟨w3, hw3⟩ : ∃ w3, w3 = w2.drewN q := ⟨_, rfl⟩
                have f1 : w3.cell? ⟨b, off + j, none⟩ = some (.int .u8 (x : Nat)) := by rw [hw3]; exact e1
                have f2 : w3.cell? ⟨b2, o2 + k, none⟩ = some (.int .u8 (y : Nat)) := by rw [hw3]; exact e2
                rw [← hw3]
                have HW3 := Lib.hid hw3
                clear hx hy hj htk hneq hc2 hrel e1 e2 hw3
                by_cases hxy : x = y
                · subst hxy
                  have HT2 := Lib.hid (HTK.out rfl)
                  go_wp2_with fail
                  go_quiet (fail)
                  go_wp2
                  go_roundg (1 - (k + 1))
                  case measure => omega
                  case rel => exact ⟨k + 1, q + nq, by omega, Nat.le_refl _, by go_num, by rw [HW3.out]; exact World.drewN_drewN _ _ _, HT2⟩
                · have hxy' : ¬ (x : Int) = y := by omega
                  have HR5 : Hid (R = (0, 0)) := Lib.hid (by rw [HR4.out, if_pos (HNE.out hxy)])
                  clear hxy
                  go_wp2_with fail
                  go_quiet (fail)
                  go_wp2
                  go_ret2
                  exact ⟨by rw [HR5.out]; rfl, by rw [HW3.out]; exact below_drewN (below_drewN HB2.out _) _⟩
              · obtain rfl : k = 1 := by omega
                have HR5 : Hid (R = (v, 1)) := Lib.hid (by
                  have := hrel.out
                  rw [List.take_of_length_le (l := E) (by rw [← HEV.out]; exact Nat.le_refl _)] at this
                  rw [HR4.out, if_neg (by simp [this])])
                go_wp2
                go_ret2
                exact ⟨by rw [HR5.out]; rfl, below_drewN HB2.out _⟩
          · have hle' : ¬ (ev : Int) = 1 := by omega
            have HR4 : Hid (R = (0, 0)) := Lib.hid (by have := HR3.out; rwa [if_pos hle] at this)
            clear hle
            go_wp2_with (first
              | (go_at_call 16; (with_reducible refine (KS.out _).mono ?_); rintro e wq ⟨rfl, rfl⟩)
              | (go_at_call 17; (with_reducible refine KB.out.mono ?_); rintro e w2 ⟨a2, c2', rfl, hs2, hb2⟩; have HB2 := Lib.hid hb2; clear hs2 hb2))
            go_ret2
            exact ⟨by rw [HR4.out]; rfl, HB2.out⟩
        · rw [decide_eq_false hsg] at KS
          have HR3 : Hid (R = (0, 0)) := Lib.hid (by have := HR2.out; rwa [if_pos (by simpa using hsg)] at this)
          clear hsg
          go_wp2_with (go_at_call 16; (with_reducible refine (KS.out _).mono ?_); rintro e wq ⟨rfl, rfl⟩)
          go_ret2
          exact ⟨by rw [HR3.out]; rfl, Below.refl _ _⟩
  · have hV0 : rvF L 1 = rv0 a := by rw [HAE.out]; rfl
    rw [q2] at hV0
    rw [q1] at hRR
    obtain ⟨V0, hV0e⟩ : ∃ V0, V0 = a - 192 := ⟨_, rfl⟩
    rw [← hV0e] at hV0
    have HV0 := Lib.hid hV0
    have hVb : V0 < 128 := by omega
    have hVc : (a : Int) - 192 = (V0 : Int) := by omega
    have z1 : ¬ (240 : Int) ≤ a := by omega
    have z2 : ¬ (224 : Int) ≤ a := by omega
    have z3 : (192 : Int) ≤ a := by omega
    clear q1 q2 q3 hV0 hV0e ha
    obtain ⟨M, hM⟩ : ∃ M, M = n - p := ⟨_, rfl⟩
    have HLM : Hid (L.length = M) := Lib.hid (by rw [hM]; exact HLL.out)
    have hnp : IntKind.i64.wrap ((n : Int) - p) = (M : Int) := by rw [IntKind.wrap_i64]; omega
    have hpm : p + M = n := by omega
    have hpm2 : (p : Int) + M ≤ 1000000000 := by omega
    go_enter Tryd.func11, Tryd.ntmps11
    go_upto_region 17 with fail
    by_cases q : M < 2
    · have q1 : (M : Int) < 2 := by omega
      have HR : Hid (R = (0, 0)) := Lib.hid (by rw [hRR, if_pos (.inr (by rw [HLM.out]; exact q))])
      clear hRR hLl hM hpm hpm2 q
      go_wp2
      go_ret2
      exact ⟨by rw [HR.out]; rfl, Below.refl _ _⟩
    have q1 : ¬ (M : Int) < 2 := by omega
    have hR1 := hRR
    rw [if_neg (show ¬ (2 = 0 ∨ L.length < 2) by rw [HLM.out]; omega)] at hR1
    have HR1 := Lib.hid hR1
    have hMN : 2 ≤ M := by omega
    clear hRR hR1 hLl hM q
    go_wp2
    go_loop [8, 9] (fun v8 v9 => ∃ i v : Nat, ((i = 1 ∧ v < 128) ∨ (i = 2 ∧ v < 8256) ∨ (i = 3 ∧ v < 528448) ∨ (i = 4 ∧ v < 33820736)) ∧ i ≤ 2 ∧ v9 = .int .i64 i ∧ v8 = .int .i64 v ∧ Hid (rvF L i = v)) (fun _ v9 => 5 - (intOf v9).toNat)
    case atStart => exact ⟨1, V0, by omega, by omega, rfl, rfl, HV0⟩
    case round =>
      obtain ⟨i, v, hv, hi, rfl, rfl, hrel⟩ := hrel
      by_cases hlt : i < 2
      · have hii : (i : Int) < 2 := by omega
        have hci := HCELL.out w (Below.refl _ _) i (by rw [HLM.out]; omega)
        have hst := rvF_succ L i (by omega)
        rw [hrel.out] at hst
        have hxb := HB.out.at i
        obtain ⟨x, hx⟩ : ∃ x, x = L.getD i 0 := ⟨_, rfl⟩
        rw [← hx] at hci hst hxb
        obtain ⟨j, hj⟩ : ∃ j, j = p + i := ⟨_, rfl⟩
        rw [← hj] at hci
        have hjs : IntKind.i64.wrap ((p : Int) + i) = (j : Int) := by rw [IntKind.wrap_i64]; omega
        have hjn : (j : Int) < n := by omega
        obtain ⟨u1, hu1⟩ : ∃ u1, u1 = v * 64 := ⟨_, rfl⟩
        obtain ⟨u2, hu2⟩ : ∃ u2, u2 = u1 + x % 64 := ⟨_, rfl⟩
        have hw1 : IntKind.i64.wrap ((v : Int) * 64) = (u1 : Int) := by rw [IntKind.wrap_i64]; omega
        have hw2 : IntKind.i64.wrap ((u1 : Int) + (x : Int) % 64) = (u2 : Int) := by rw [IntKind.wrap_i64]; omega
        have hvn : ((i + 1 = 1 ∧ u2 < 128) ∨ (i + 1 = 2 ∧ u2 < 8256) ∨ (i + 1 = 3 ∧ u2 < 528448) ∨ (i + 1 = 4 ∧ u2 < 33820736)) := by omega
        have HVN := Lib.hid hvn
        have HN2 : Hid (rvF L (i + 1) = u2) := Lib.hid (by rw [hst, hu2, hu1])
        clear hst hx hj hu1 hu2 hvn hv hrel
        go_wp2
        go_round
        case rel => exact ⟨i + 1, u2, HVN.out, by omega, by go_num, by go_num, HN2⟩
        case measure => simp [intOf]; omega
      · obtain rfl : i = 2 := by omega
        have HR2 := HR1.out
        rw [hrel.out] at HR2
        have HR2 := Lib.hid HR2
        have KS := Lib.hid fun W => rSign_any (v : Int) W
        have hvv := valid_sign v
        rw [hvv] at KS
        clear hv hvv HR1 hrel
        by_cases hsg : isSign v
        · rw [decide_eq_true hsg] at KS
          have KB := rBytes_any v hsg w
          have HR3 := HR2.out
          rw [if_neg (by simpa using hsg)] at HR3
          have hel := enc_le v
          unfold SlTo at KB
          obtain ⟨E, hE⟩ : ∃ E, E = enc v := ⟨_, rfl⟩
          rw [← hE] at KB HR3 hel
          obtain ⟨ev, hev⟩ : ∃ ev, ev = E.length := ⟨_, rfl⟩
          rw [← hev] at KB HR3 hel
          have KB := Lib.hid KB
          have HEV := Lib.hid hev
          have HR3 := Lib.hid HR3
          clear hE hsg HR2 hev
          by_cases hle : ev = 2
          · subst hle
            have HR4 : Hid (R = if L.take 2 ≠ E then (0, 0) else (v, 2)) := Lib.hid (by have := HR3.out; rwa [if_neg (by simp)] at this)
            clear HR3 hel
            go_wp2_with (first
              | (go_at_call 16; (with_reducible refine (KS.out _).mono ?_); rintro e wq ⟨rfl, rfl⟩)
              | (go_at_call 17; (with_reducible refine KB.out.mono ?_); rintro e w2 ⟨a2, c2', rfl, hs2, hb2⟩; have HS2 := Lib.hid hs2; have HB2 := Lib.hid hb2; clear hs2 hb2))
            go_loopg [11] 2 (fun gh v11 wr => ∃ (k q : Nat), k ≤ 2 ∧ 2 - k ≤ gh ∧ v11 = .int .i64 (k : Nat) ∧ wr = w2.drewN q ∧ Hid (L.take k = E.take k))
            case atStart => exact ⟨0, 0, by omega, by omega, rfl, rfl, Lib.hid rfl⟩
            case round =>
              obtain ⟨k, q, hk, hgh, rfl, rfl, hrel⟩ := hrel
              by_cases hlt : k < 2
              · have hkk : (k : Int) < 2 := by omega
                have e1 := HCELL.out w2 HB2.out k (by rw [HLM.out]; omega)
                rcases HS2.out.src with h0 | ⟨b2, o2, rfl, hc2⟩
                · rw [h0] at HEV; exact absurd HEV.out (by simp)
                have e2 := hc2 k (by rw [← HEV.out]; exact hlt)
                have htk := fun h => take_eq_at (L := L) (E := E) (k := k) (by rw [HLM.out]; omega) (by rw [← HEV.out]; exact hlt) hrel.out h
                have hneq : L.getD k 0 ≠ E.getD k 0 → L.take 2 ≠ E := fun hx he => hx (by
                  have := congrArg (fun l => List.getD l k 0) he
                  simpa [List.getD, List.getElem?_take, hlt] using this)
                obtain ⟨x, hx⟩ : ∃ x, x = L.getD k 0 := ⟨_, rfl⟩
                obtain ⟨y, hy⟩ : ∃ y, y = E.getD k 0 := ⟨_, rfl⟩
                rw [← hx] at e1 htk hneq
                rw [← hy] at e2 htk hneq
                obtain ⟨j, hj⟩ : ∃ j, j = p + k := ⟨_, rfl⟩
                rw [← hj] at e1
                have hjs : IntKind.i64.wrap ((p : Int) + k) = (j : Int) := by rw [IntKind.wrap_i64]; omega
                have hjn : (j : Int) < n := by omega
                have HTK := Lib.hid htk
                have HNE := Lib.hid hneq
                obtain ⟨w3, hw3⟩ : ∃ w3, w3 = w2.drewN q := ⟨_, rfl⟩
                have f1 : w3.cell? ⟨b, off + j, none⟩ = some (.int .u8 (x : Nat)) := by rw [hw3]; exact e1
                have f2 : w3.cell? ⟨b2, o2 + k, none⟩ = some (.int .u8 (y : Nat)) := by rw [hw3]; exact e2
                rw [← hw3]
                have HW3 := Lib.hid hw3
                clear hx hy hj htk hneq hc2 hrel e1 e2 hw3
                by_cases hxy : x = y
                · subst hxy
                  have HT2 := Lib.hid (HTK.out rfl)
                  go_wp2_with fail
                  go_quiet (fail)
                  go_wp2
                  go_roundg (2 - (k + 1))
                  case measure => omega
                  case rel => exact ⟨k + 1, q + nq, by omega, Nat.le_refl _, by go_num, by rw [HW3.out]; exact World.drewN_drewN _ _ _, HT2⟩
                · have hxy' : ¬ (x : Int) = y := by omega
                  have HR5 : Hid (R = (0, 0)) := Lib.hid (by rw [HR4.out, if_pos (HNE.out hxy)])
                  clear hxy
                  go_wp2_with fail
                  go_quiet (fail)
                  go_wp2
                  go_ret2
                  exact ⟨by rw [HR5.out]; rfl, by rw [HW3.out]; exact below_drewN (below_drewN HB2.out _) _⟩
              · obtain rfl : k = 2 := by omega
                have HR5 : Hid (R = (v, 2)) := Lib.hid (by
                  have := hrel.out
                  rw [List.take_of_length_le (l := E) (by rw [← HEV.out]; exact Nat.le_refl _)] at this
                  rw [HR4.out, if_neg (by simp [this])])
                go_wp2
                go_ret2
                exact ⟨by rw [HR5.out]; rfl, below_drewN HB2.out _⟩
          · have hle' : ¬ (ev : Int) = 2 := by omega
            have HR4 : Hid (R = (0, 0)) := Lib.hid (by have := HR3.out; rwa [if_pos hle] at this)
            clear hle
            go_wp2_with (first
              | (go_at_call 16; (with_reducible refine (KS.out _).mono ?_); rintro e wq ⟨rfl, rfl⟩)
              | (go_at_call 17; (with_reducible refine KB.out.mono ?_); rintro e w2 ⟨a2, c2', rfl, hs2, hb2⟩; have HB2 := Lib.hid hb2; clear hs2 hb2))
            go_ret2
            exact ⟨by rw [HR4.out]; rfl, HB2.out⟩
        · rw [decide_eq_false hsg] at KS
          have HR3 : Hid (R = (0, 0)) := Lib.hid (by have := HR2.out; rwa [if_pos (by simpa using hsg)] at this)
          clear hsg
          go_wp2_with (go_at_call 16; (with_reducible refine (KS.out _).mono ?_); rintro e wq ⟨rfl, rfl⟩)
          go_ret2
          exact ⟨by rw [HR3.out]; rfl, Below.refl _ _⟩
  · have hV0 : rvF L 1 = rv0 a := by rw [HAE.out]; rfl
    rw [q2] at hV0
    rw [q1] at hRR
    obtain ⟨V0, hV0e⟩ : ∃ V0, V0 = a - 224 := ⟨_, rfl⟩
    rw [← hV0e] at hV0
    have HV0 := Lib.hid hV0
    have hVb : V0 < 128 := by omega
    have hVc : (a : Int) - 224 = (V0 : Int) := by omega
    have z1 : ¬ (240 : Int) ≤ a := by omega
    have z2 : (224 : Int) ≤ a := by omega
    clear q1 q2 q3 hV0 hV0e ha
    obtain ⟨M, hM⟩ : ∃ M, M = n - p := ⟨_, rfl⟩
    have HLM : Hid (L.length = M) := Lib.hid (by rw [hM]; exact HLL.out)
    have hnp : IntKind.i64.wrap ((n : Int) - p) = (M : Int) := by rw [IntKind.wrap_i64]; omega
    have hpm : p + M = n := by omega
    have hpm2 : (p : Int) + M ≤ 1000000000 := by omega
    go_enter Tryd.func11, Tryd.ntmps11
    go_upto_region 17 with fail
    by_cases q : M < 3
    · have q1 : (M : Int) < 3 := by omega
      have HR : Hid (R = (0, 0)) := Lib.hid (by rw [hRR, if_pos (.inr (by rw [HLM.out]; exact q))])
      clear hRR hLl hM hpm hpm2 q
      go_wp2
      go_ret2
      exact ⟨by rw [HR.out]; rfl, Below.refl _ _⟩
    have q1 : ¬ (M : Int) < 3 := by omega
    have hR1 := hRR
    rw [if_neg (show ¬ (3 = 0 ∨ L.length < 3) by rw [HLM.out]; omega)] at hR1
    have HR1 := Lib.hid hR1
    have hMN : 3 ≤ M := by omega
    clear hRR hR1 hLl hM q
    go_wp2
    go_loop [8, 9] (fun v8 v9 => ∃ i v : Nat, ((i = 1 ∧ v < 128) ∨ (i = 2 ∧ v < 8256) ∨ (i = 3 ∧ v < 528448) ∨ (i = 4 ∧ v < 33820736)) ∧ i ≤ 3 ∧ v9 = .int .i64 i ∧ v8 = .int .i64 v ∧ Hid (rvF L i = v)) (fun _ v9 => 5 - (intOf v9).toNat)
    case atStart => exact ⟨1, V0, by omega, by omega, rfl, rfl, HV0⟩
    case round =>
      obtain ⟨i, v, hv, hi, rfl, rfl, hrel⟩ := hrel
      by_cases hlt : i < 3
      · have hii : (i : Int) < 3 := by omega
        have hci := HCELL.out w (Below.refl _ _) i (by rw [HLM.out]; omega)
        have hst := rvF_succ L i (by omega)
        rw [hrel.out] at hst
        have hxb := HB.out.at i
        obtain ⟨x, hx⟩ : ∃ x, x = L.getD i 0 := ⟨_, rfl⟩
        rw [← hx] at hci hst hxb
        obtain ⟨j, hj⟩ : ∃ j, j = p + i := ⟨_, rfl⟩
        rw [← hj] at hci
        have hjs : IntKind.i64.wrap ((p : Int) + i) = (j : Int) := by rw [IntKind.wrap_i64]; omega
        have hjn : (j : Int) < n := by omega
        obtain ⟨u1, hu1⟩ : ∃ u1, u1 = v * 64 := ⟨_, rfl⟩
        obtain ⟨u2, hu2⟩ : ∃ u2, u2 = u1 + x % 64 := ⟨_, rfl⟩
        have hw1 : IntKind.i64.wrap ((v : Int) * 64) = (u1 : Int) := by rw [IntKind.wrap_i64]; omega
        have hw2 : IntKind.i64.wrap ((u1 : Int) + (x : Int) % 64) = (u2 : Int) := by rw [IntKind.wrap_i64]; omega
        have hvn : ((i + 1 = 1 ∧ u2 < 128) ∨ (i + 1 = 2 ∧ u2 < 8256) ∨ (i + 1 = 3 ∧ u2 < 528448) ∨ (i + 1 = 4 ∧ u2 < 33820736)) := by omega
        have HVN := Lib.hid hvn
        have HN2 : Hid (rvF L (i + 1) = u2) := Lib.hid (by rw [hst, hu2, hu1])
        clear hst hx hj hu1 hu2 hvn hv hrel
        go_wp2
        go_round
        case rel => exact ⟨i + 1, u2, HVN.out, by omega, by go_num, by go_num, HN2⟩
        case measure => simp [intOf]; omega
      · obtain rfl : i = 3 := by omega
        have HR2 := HR1.out
        rw [hrel.out] at HR2
        have HR2 := Lib.hid HR2
        have KS := Lib.hid fun W => rSign_any (v : Int) W
        have hvv := valid_sign v
        rw [hvv] at KS
        clear hv hvv HR1 hrel
        by_cases hsg : isSign v
        · rw [decide_eq_true hsg] at KS
          have KB := rBytes_any v hsg w
          have HR3 := HR2.out
          rw [if_neg (by simpa using hsg)] at HR3
          have hel := enc_le v
          unfold SlTo at KB
          obtain ⟨E, hE⟩ : ∃ E, E = enc v := ⟨_, rfl⟩
          rw [← hE] at KB HR3 hel
          obtain ⟨ev, hev⟩ : ∃ ev, ev = E.length := ⟨_, rfl⟩
          rw [← hev] at KB HR3 hel
          have KB := Lib.hid KB
          have HEV := Lib.hid hev
          have HR3 := Lib.hid HR3
          clear hE hsg HR2 hev
          by_cases hle : ev = 3
          · subst hle
            have HR4 : Hid (R = if L.take 3 ≠ E then (0, 0) else (v, 3)) := Lib.hid (by have := HR3.out; rwa [if_neg (by simp)] at this)
            clear HR3 hel
            go_wp2_with (first
              | (go_at_call 16; (with_reducible refine (KS.out _).mono ?_); rintro e wq ⟨rfl, rfl⟩)
              | (go_at_call 17; (with_reducible refine KB.out.mono ?_); rintro e w2 ⟨a2, c2', rfl, hs2, hb2⟩; have HS2 := Lib.hid hs2; have HB2 := Lib.hid hb2; clear hs2 hb2))
            go_loopg [11] 3 (fun gh v11 wr => ∃ (k q : Nat), k ≤ 3 ∧ 3 - k ≤ gh ∧ v11 = .int .i64 (k : Nat) ∧ wr = w2.drewN q ∧ Hid (L.take k = E.take k))
            case atStart => exact ⟨0, 0, by omega, by omega, rfl, rfl, Lib.hid rfl⟩
            case round =>
              obtain ⟨k, q, hk, hgh, rfl, rfl, hrel⟩ := hrel
              by_cases hlt : k < 3
              · have hkk : (k : Int) < 3 := by omega
                have e1 := HCELL.out w2 HB2.out k (by rw [HLM.out]; omega)
                rcases HS2.out.src with h0 | ⟨b2, o2, rfl, hc2⟩
                · rw [h0] at HEV; exact absurd HEV.out (by simp)
                have e2 := hc2 k (by rw [← HEV.out]; exact hlt)
                have htk := fun h => take_eq_at (L := L) (E := E) (k := k) (by rw [HLM.out]; omega) (by rw [← HEV.out]; exact hlt) hrel.out h
                have hneq : L.getD k 0 ≠ E.getD k 0 → L.take 3 ≠ E := fun hx he => hx (by
                  have := congrArg (fun l => List.getD l k 0) he
                  simpa [List.getD, List.getElem?_take, hlt] using this)
                obtain ⟨x, hx⟩ : ∃ x, x = L.getD k 0 := ⟨_, rfl⟩
                obtain ⟨y, hy⟩ : ∃ y, y = E.getD k 0 := ⟨_, rfl⟩
                rw [← hx] at e1 htk hneq
                rw [← hy] at e2 htk hneq
                obtain ⟨j, hj⟩ : ∃ j, j = p + k := ⟨_, rfl⟩
                rw [← hj] at e1
                have hjs : IntKind.i64.wrap ((p : Int) + k) = (j : Int) := by rw [IntKind.wrap_i64]; omega
                have hjn : (j : Int) < n := by omega
                have HTK := Lib.hid htk
                have HNE := Lib.hid hneq
                obtain ⟨w3, hw3⟩ : ∃ w3, w3 = w2.drewN q := ⟨_, rfl⟩
                have f1 : w3.cell? ⟨b, off + j, none⟩ = some (.int .u8 (x : Nat)) := by rw [hw3]; exact e1
                have f2 : w3.cell? ⟨b2, o2 + k, none⟩ = some (.int .u8 (y : Nat)) := by rw [hw3]; exact e2
                rw [← hw3]
                have HW3 := Lib.hid hw3
                clear hx hy hj htk hneq hc2 hrel e1 e2 hw3
                by_cases hxy : x = y
                · subst hxy
                  have HT2 := Lib.hid (HTK.out rfl)
                  go_wp2_with fail
                  go_quiet (fail)
                  go_wp2
                  go_roundg (3 - (k + 1))
                  case measure => omega
                  case rel => exact ⟨k + 1, q + nq, by omega, Nat.le_refl _, by go_num, by rw [HW3.out]; exact World.drewN_drewN _ _ _, HT2⟩
                · have hxy' : ¬ (x : Int) = y := by omega
                  have HR5 : Hid (R = (0, 0)) := Lib.hid (by rw [HR4.out, if_pos (HNE.out hxy)])
                  clear hxy
                  go_wp2_with fail
                  go_quiet (fail)
                  go_wp2
                  go_ret2
                  exact ⟨by rw [HR5.out]; rfl, by rw [HW3.out]; exact below_drewN (below_drewN HB2.out _) _⟩
              · obtain rfl : k = 3 := by omega
                have HR5 : Hid (R = (v, 3)) := Lib.hid (by
                  have := hrel.out
                  rw [List.take_of_length_le (l := E) (by rw [← HEV.out]; exact Nat.le_refl _)] at this
                  rw [HR4.out, if_neg (by simp [this])])
                go_wp2
                go_ret2
                exact ⟨by rw [HR5.out]; rfl, below_drewN HB2.out _⟩
          · have hle' : ¬ (ev : Int) = 3 := by omega
            have HR4 : Hid (R = (0, 0)) := Lib.hid (by have := HR3.out; rwa [if_pos hle] at this)
            clear hle
            go_wp2_with (first
              | (go_at_call 16; (with_reducible refine (KS.out _).mono ?_); rintro e wq ⟨rfl, rfl⟩)
              | (go_at_call 17; (with_reducible refine KB.out.mono ?_); rintro e w2 ⟨a2, c2', rfl, hs2, hb2⟩; have HB2 := Lib.hid hb2; clear hs2 hb2))
            go_ret2
            exact ⟨by rw [HR4.out]; rfl, HB2.out⟩
        · rw [decide_eq_false hsg] at KS
          have HR3 : Hid (R = (0, 0)) := Lib.hid (by have := HR2.out; rwa [if_pos (by simpa using hsg)] at this)
          clear hsg
          go_wp2_with (go_at_call 16; (with_reducible refine (KS.out _).mono ?_); rintro e wq ⟨rfl, rfl⟩)
          go_ret2
          exact ⟨by rw [HR3.out]; rfl, Below.refl _ _⟩
  · have hV0 : rvF L 1 = rv0 a := by rw [HAE.out]; rfl
    rw [q2] at hV0
    rw [q1] at hRR
    obtain ⟨V0, hV0e⟩ : ∃ V0, V0 = a - 240 := ⟨_, rfl⟩
    rw [← hV0e] at hV0
    have HV0 := Lib.hid hV0
    have hVb : V0 < 128 := by omega
    have hVc : (a : Int) - 240 = (V0 : Int) := by omega
    have z1 : (240 : Int) ≤ a := by omega
    clear q1 q2 q3 hV0 hV0e ha
    obtain ⟨M, hM⟩ : ∃ M, M = n - p := ⟨_, rfl⟩
    have HLM : Hid (L.length = M) := Lib.hid (by rw [hM]; exact HLL.out)
    have hnp : IntKind.i64.wrap ((n : Int) - p) = (M : Int) := by rw [IntKind.wrap_i64]; omega
    have hpm : p + M = n := by omega
    have hpm2 : (p : Int) + M ≤ 1000000000 := by omega
    go_enter Tryd.func11, Tryd.ntmps11
    go_upto_region 17 with fail
    by_cases q : M < 4
    · have q1 : (M : Int) < 4 := by omega
      have HR : Hid (R = (0, 0)) := Lib.hid (by rw [hRR, if_pos (.inr (by rw [HLM.out]; exact q))])
      clear hRR hLl hM hpm hpm2 q
      go_wp2
      go_ret2
      exact ⟨by rw [HR.out]; rfl, Below.refl _ _⟩
    have q1 : ¬ (M : Int) < 4 := by omega
    have hR1 := hRR
    rw [if_neg (show ¬ (4 = 0 ∨ L.length < 4) by rw [HLM.out]; omega)] at hR1
    have HR1 := Lib.hid hR1
    have hMN : 4 ≤ M := by omega
    clear hRR hR1 hLl hM q
    go_wp2
    go_loop [8, 9] (fun v8 v9 => ∃ i v : Nat, ((i = 1 ∧ v < 128) ∨ (i = 2 ∧ v < 8256) ∨ (i = 3 ∧ v < 528448) ∨ (i = 4 ∧ v < 33820736)) ∧ i ≤ 4 ∧ v9 = .int .i64 i ∧ v8 = .int .i64 v ∧ Hid (rvF L i = v)) (fun _ v9 => 5 - (intOf v9).toNat)
    case atStart => exact ⟨1, V0, by omega, by omega, rfl, rfl, HV0⟩
    case round =>
      obtain ⟨i, v, hv, hi, rfl, rfl, hrel⟩ := hrel
      by_cases hlt : i < 4
      · have hii : (i : Int) < 4 := by omega
        have hci := HCELL.out w (Below.refl _ _) i (by rw [HLM.out]; omega)
        have hst := rvF_succ L i (by omega)
        rw [hrel.out] at hst
        have hxb := HB.out.at i
        obtain ⟨x, hx⟩ : ∃ x, x = L.getD i 0 := ⟨_, rfl⟩
        rw [← hx] at hci hst hxb
        obtain ⟨j, hj⟩ : ∃ j, j = p + i := ⟨_, rfl⟩
        rw [← hj] at hci
        have hjs : IntKind.i64.wrap ((p : Int) + i) = (j : Int) := by rw [IntKind.wrap_i64]; omega
        have hjn : (j : Int) < n := by omega
        obtain ⟨u1, hu1⟩ : ∃ u1, u1 = v * 64 := ⟨_, rfl⟩
        obtain ⟨u2, hu2⟩ : ∃ u2, u2 = u1 + x % 64 := ⟨_, rfl⟩
        have hw1 : IntKind.i64.wrap ((v : Int) * 64) = (u1 : Int) := by rw [IntKind.wrap_i64]; omega
        have hw2 : IntKind.i64.wrap ((u1 : Int) + (x : Int) % 64) = (u2 : Int) := by rw [IntKind.wrap_i64]; omega
        have hvn : ((i + 1 = 1 ∧ u2 < 128) ∨ (i + 1 = 2 ∧ u2 < 8256) ∨ (i + 1 = 3 ∧ u2 < 528448) ∨ (i + 1 = 4 ∧ u2 < 33820736)) := by omega
        have HVN := Lib.hid hvn
        have HN2 : Hid (rvF L (i + 1) = u2) := Lib.hid (by rw [hst, hu2, hu1])
        clear hst hx hj hu1 hu2 hvn hv hrel
        go_wp2
        go_round
        case rel => exact ⟨i + 1, u2, HVN.out, by omega, by go_num, by go_num, HN2⟩
        case measure => simp [intOf]; omega
      · obtain rfl : i = 4 := by omega
        have HR2 := HR1.out
        rw [hrel.out] at HR2
        have HR2 := Lib.hid HR2
        have KS := Lib.hid fun W => rSign_any (v : Int) W
        have hvv := valid_sign v
        rw [hvv] at KS
        clear hv hvv HR1 hrel
        by_cases hsg : isSign v
        · rw [decide_eq_true hsg] at KS
          have KB := rBytes_any v hsg w
          have HR3 := HR2.out
          rw [if_neg (by simpa using hsg)] at HR3
          have hel := enc_le v
          unfold SlTo at KB
          obtain ⟨E, hE⟩ : ∃ E, E = enc v := ⟨_, rfl⟩
          rw [← hE] at KB HR3 hel
          obtain ⟨ev, hev⟩ : ∃ ev, ev = E.length := ⟨_, rfl⟩
          rw [← hev] at KB HR3 hel
          have KB := Lib.hid KB
          have HEV := Lib.hid hev
          have HR3 := Lib.hid HR3
          clear hE hsg HR2 hev
          by_cases hle : ev = 4
          · subst hle
            have HR4 : Hid (R = if L.take 4 ≠ E then (0, 0) else (v, 4)) := Lib.hid (by have := HR3.out; rwa [if_neg (by simp)] at this)
            clear HR3 hel
            go_wp2_with (first
              | (go_at_call 16; (with_reducible refine (KS.out _).mono ?_); rintro e wq ⟨rfl, rfl⟩)
              | (go_at_call 17; (with_reducible refine KB.out.mono ?_); rintro e w2 ⟨a2, c2', rfl, hs2, hb2⟩; have HS2 := Lib.hid hs2; have HB2 := Lib.hid hb2; clear hs2 hb2))
            go_loopg [11] 4 (fun gh v11 wr => ∃ (k q : Nat), k ≤ 4 ∧ 4 - k ≤ gh ∧ v11 = .int .i64 (k : Nat) ∧ wr = w2.drewN q ∧ Hid (L.take k = E.take k))
            case atStart => exact ⟨0, 0, by omega, by omega, rfl, rfl, Lib.hid rfl⟩
            case round =>
              obtain ⟨k, q, hk, hgh, rfl, rfl, hrel⟩ := hrel
              by_cases hlt : k < 4
              · have hkk : (k : Int) < 4 := by omega
                have e1 := HCELL.out w2 HB2.out k (by rw [HLM.out]; omega)
                rcases HS2.out.src with h0 | ⟨b2, o2, rfl, hc2⟩
                · rw [h0] at HEV; exact absurd HEV.out (by simp)
                have e2 := hc2 k (by rw [← HEV.out]; exact hlt)
                have htk := fun h => take_eq_at (L := L) (E := E) (k := k) (by rw [HLM.out]; omega) (by rw [← HEV.out]; exact hlt) hrel.out h
                have hneq : L.getD k 0 ≠ E.getD k 0 → L.take 4 ≠ E := fun hx he => hx (by
                  have := congrArg (fun l => List.getD l k 0) he
                  simpa [List.getD, List.getElem?_take, hlt] using this)
                obtain ⟨x, hx⟩ : ∃ x, x = L.getD k 0 := ⟨_, rfl⟩
                obtain ⟨y, hy⟩ : ∃ y, y = E.getD k 0 := ⟨_, rfl⟩
                rw [← hx] at e1 htk hneq
                rw [← hy] at e2 htk hneq
                obtain ⟨j, hj⟩ : ∃ j, j = p + k := ⟨_, rfl⟩
                rw [← hj] at e1
                have hjs : IntKind.i64.wrap ((p : Int) + k) = (j : Int) := by rw [IntKind.wrap_i64]; omega
                have hjn : (j : Int) < n := by omega
                have HTK := Lib.hid htk
                have HNE := Lib.hid hneq
                obtain ⟨w3, hw3⟩ : ∃ w3, w3 = w2.drewN q := ⟨_, rfl⟩
                have f1 : w3.cell? ⟨b, off + j, none⟩ = some (.int .u8 (x : Nat)) := by rw [hw3]; exact e1
                have f2 : w3.cell? ⟨b2, o2 + k, none⟩ = some (.int .u8 (y : Nat)) := by rw [hw3]; exact e2
                rw [← hw3]
                have HW3 := Lib.hid hw3
                clear hx hy hj htk hneq hc2 hrel e1 e2 hw3
                by_cases hxy : x = y
                · subst hxy
                  have HT2 := Lib.hid (HTK.out rfl)
                  go_wp2_with fail
                  go_quiet (fail)
                  go_wp2
                  go_roundg (4 - (k + 1))
                  case measure => omega
                  case rel => exact ⟨k + 1, q + nq, by omega, Nat.le_refl _, by go_num, by rw [HW3.out]; exact World.drewN_drewN _ _ _, HT2⟩
                · have hxy' : ¬ (x : Int) = y := by omega
                  have HR5 : Hid (R = (0, 0)) := Lib.hid (by rw [HR4.out, if_pos (HNE.out hxy)])
                  clear hxy
                  go_wp2_with fail
                  go_quiet (fail)
                  go_wp2
                  go_ret2
                  exact ⟨by rw [HR5.out]; rfl, by rw [HW3.out]; exact below_drewN (below_drewN HB2.out _) _⟩
              · obtain rfl : k = 4 := by omega
                have HR5 : Hid (R = (v, 4)) := Lib.hid (by
                  have := hrel.out
                  rw [List.take_of_length_le (l := E) (by rw [← HEV.out]; exact Nat.le_refl _)] at this
                  rw [HR4.out, if_neg (by simp [this])])
                go_wp2
                go_ret2
                exact ⟨by rw [HR5.out]; rfl, below_drewN HB2.out _⟩
          · have hle' : ¬ (ev : Int) = 4 := by omega
            have HR4 : Hid (R = (0, 0)) := Lib.hid (by have := HR3.out; rwa [if_pos hle] at this)
            clear hle
            go_wp2_with (first
              | (go_at_call 16; (with_reducible refine (KS.out _).mono ?_); rintro e wq ⟨rfl, rfl⟩)
              | (go_at_call 17; (with_reducible refine KB.out.mono ?_); rintro e w2 ⟨a2, c2', rfl, hs2, hb2⟩; have HB2 := Lib.hid hb2; clear hs2 hb2))
            go_ret2
            exact ⟨by rw [HR4.out]; rfl, HB2.out⟩
        · rw [decide_eq_false hsg] at KS
          have HR3 : Hid (R = (0, 0)) := Lib.hid (by have := HR2.out; rwa [if_pos (by simpa using hsg)] at this)
          clear hsg
          go_wp2_with (go_at_call 16; (with_reducible refine (KS.out _).mono ?_); rintro e wq ⟨rfl, rfl⟩)
          go_ret2
          exact ⟨by rw [HR3.out]; rfl, Below.refl _ _⟩
end Go.Proofs.YtmnkdnlmpgmdgaaDoor
