/-
  CursorSigns: for every row of bytes, whatever sign and place, the law returns true and its argument reads as before. No condition.
-/
import Derived.Test.YtflabomkgkojlaaT
import Derived.Test.YtflabomkgkojlaaS
namespace Go.Proofs.Ytflabomkgkojlaa.cursorSigns
open Go.ChangeShapes Go.WideShapes Go.ChangeAt Go.RowKit
set_option linter.unusedVariables false

theorem walk_long (ao : Option Addr) (c L : Nat) (s at_ : Int) (h : 1000 < L ∨ at_ < 0 ∨ (L : Int) < at_) (w : World) (hM : MaxL w) :
    Calls Try.prog 6 #[.slice ao L c, .int .u32 s, .int .i64 at_] w fun e w' => e = .returned (.bool true) ∧ Below w.heap.size w w' := by
  have K7 := Lib.hid (alive_any w hM)
  clear hM
  have hc : 1000 < L ∨ (¬ 1000 < L ∧ at_ < 0) ∨ (¬ 1000 < L ∧ ¬ at_ < 0 ∧ (L : Int) < at_) := by omega
  clear h
  rcases hc with h1 | ⟨h1, h2⟩ | ⟨h1, h2, h4⟩
  · have h' : (1000 : Int) < L := by omega
    go_enter Try.func6, Try.ntmps6
    go_wp2_with (go_at_call 7; (with_reducible refine K7.out.mono ?_); rintro e w1 ⟨rfl, hb1⟩; have HB := Lib.hid hb1; clear hb1)
    go_ret
    exact ⟨rfl, HB.out⟩
  · have h' : ¬ (1000 : Int) < L := by omega
    go_enter Try.func6, Try.ntmps6
    go_wp2_with (go_at_call 7; (with_reducible refine K7.out.mono ?_); rintro e w1 ⟨rfl, hb1⟩; have HB := Lib.hid hb1; clear hb1)
    go_ret
    exact ⟨rfl, HB.out⟩
  · have h' : ¬ (1000 : Int) < L := by omega
    go_enter Try.func6, Try.ntmps6
    go_wp2_with (go_at_call 7; (with_reducible refine K7.out.mono ?_); rintro e w1 ⟨rfl, hb1⟩; have HB := Lib.hid hb1; clear hb1)
    go_ret
    exact ⟨rfl, HB.out⟩

theorem sl_take {w : World} {ao : Option Addr} {c : Nat} {xs : List Nat} (h : Sl w ao c xs) (n : Nat) : Sl w ao c (xs.take n) := by
  have hle := h.le
  refine ⟨?_, by rw [List.length_take]; omega, h.big, h.nil, h.bs.take n⟩
  rcases h.src with h0 | ⟨b, o, e, hc⟩
  · left; rw [h0]; simp
  · refine .inr ⟨b, o, e, fun j hj => ?_⟩
    rw [List.length_take] at hj
    rw [hc j (by omega)]
    have hjn : j < n := by omega
    simp [List.getD, hjn]

theorem made_fs (w : World) (x : Fe) (hs : Sl (w.alloc (.cells #[.int .i64 x.f.k, .int .i64 (x.f.n : Nat), .slice x.ao x.f.b.length x.c] 48)) x.ao x.c x.f.b) : Fs (w.alloc (.cells #[.int .i64 x.f.k, .int .i64 (x.f.n : Nat), .slice x.ao x.f.b.length x.c] 48)) (some ⟨w.heap.size, 0, none⟩) [x] := by
  refine ⟨fun y hy => by rw [List.mem_singleton] at hy; subst hy; exact hs, .inr ⟨_, rfl, fun j u hu => ?_⟩⟩
  rw [World.cell?_alloc_at _ _ _ _ rfl]
  simpa [fcells, Fe.cells] using hu

theorem wrt_sign (s : Nat) : wrt [⟨1, s, []⟩] = le s 4 := by simp [wrt, wf]

/-- Write of one number. -/
theorem write_sign (W : World) (s : Nat) :
    Calls Try.prog 19 #[.slice (some ⟨W.heap.size, 0, none⟩) 1 1] (W.alloc (.cells #[.int .i64 1, .int .i64 s, .slice none 0 0] 48)) fun e w' => ∃ ao c, e = .returned (.slice ao 4 c) ∧ Sl w' ao c (le s 4) ∧ Below (W.heap.size + 1) (W.alloc (.cells #[.int .i64 1, .int .i64 s, .slice none 0 0] 48)) w' := by
  have h := write_any (some ⟨W.heap.size, 0, none⟩) 1 [⟨⟨1, s, []⟩, none, 0⟩] (W.alloc (.cells #[.int .i64 1, .int .i64 s, .slice none 0 0] 48)) (made_fs W ⟨⟨1, s, []⟩, none, 0⟩ (Sl.none_ _)) (by simp) (le s 4) (wrt_sign s) (by rw [le_len]; omega)
  refine h.mono fun e w' ⟨ao, c, he, ho, hb⟩ => ⟨ao, c, by rw [he, le_len], own_sl ho (le_bs _ _), ?_⟩
  have := hb
  simpa using this

theorem has_at {xs : List Nat} {a s : Nat} (ha : a ≤ xs.length) (hs : s < 4294967296) : Has (xs.take a ++ le s 4 ++ xs.drop a) s a := by
  have hl : (xs.take a).length = a := by rw [List.length_take]; omega
  have h4 := le_len (s : Int) 4
  have hn := num_le4 (s : Int)
  refine ⟨by simp only [List.length_append, hl, h4]; omega, ?_⟩
  rw [List.append_assoc, List.drop_append_of_le_length (by omega), List.drop_of_length_le (by omega), List.nil_append, List.take_append_of_le_length (by omega), List.take_of_length_le (by omega)]
  omega

theorem conv_sign (s : Nat) (hs : s < 4294967296) (W : World) : (convert 23 3 (.int .u32 (s : Int))).run Try.prog W = .ok (.int .i64 (s : Int)) W := by
  have hk : Try.prog.intKind 3 = .i64 := by simp [Program.intKind, Try.underlying3]
  have h := run_convert_int (P := Try.prog) W 23 3 .u32 (s : Int) (by rw [Try.underlying23]; rfl) (by rw [hk]; exact Try.underlying3)
  have e : IntKind.i64.wrap (s : Int) = s := by rw [IntKind.wrap_i64]; omega
  rw [hk, e] at h
  exact h
theorem conv_back (s : Nat) (hs : s < 4294967296) (W : World) : (convert 3 23 (.int .i64 (s : Int))).run Try.prog W = .ok (.int .u32 (s : Int)) W := by
  have hk : Try.prog.intKind 23 = .u32 := by simp [Program.intKind, Try.underlying23]
  have h := run_convert_int (P := Try.prog) W 3 23 .i64 (s : Int) (by rw [Try.underlying3]; rfl) (by rw [hk]; exact Try.underlying23)
  have e : IntKind.u32.wrap (s : Int) = s := by rw [IntKind.wrap_u32]; omega
  rw [hk, e] at h
  exact h

theorem ends {zs : List Nat} {s a : Nat} (hb : Bs zs) (hs : s < 4294967296) (h : Has zs s a) :
    (∃ i1 : Nat, IsFirst zs s 0 i1 ∧ i1 ≤ a ∧ (∀ j, Has zs s j → i1 ≤ j) ∧ Has zs s i1) ∧ ∃ i2 : Nat, IsLast zs s i2 ∧ a ≤ i2 ∧ (∀ j, Has zs s j → j ≤ i2) ∧ IsFirst zs s (i2 + 1) (-1) ∧ Has zs s i2 := by
  constructor
  · obtain ⟨r, hr⟩ := exists_first hb s hs 0
    rcases hr with ⟨e, hn⟩ | ⟨i, e, h1, h2, h3⟩
    · exact absurd h (hn a (Nat.zero_le _))
    · refine ⟨i, .inr ⟨i, rfl, h1, h2, h3⟩, ?_, fun j hj => ?_, h2⟩
      · by_cases hlt : a < i
        · exact absurd h (h3 a (Nat.zero_le _) hlt)
        · omega
      · by_cases hlt : j < i
        · exact absurd hj (h3 j (Nat.zero_le _) hlt)
        · omega
  · have hr := last_index hb s hs
    rcases hr with ⟨e, hn⟩ | ⟨i, e, h2, h3⟩
    · exact absurd h (hn a)
    · have hj : ∀ j, Has zs s j → j ≤ i := fun j hj => by
        by_cases hlt : i < j
        · exact absurd hj (h3 j hlt)
        · omega
      exact ⟨i, .inr ⟨i, rfl, h2, h3⟩, hj a h, hj, .inl ⟨rfl, fun j h4 h5 => by have := hj j h5; omega⟩, h2⟩

set_option maxHeartbeats 6400000 in
set_option maxRecDepth 100000 in
theorem walk_inside (ao : Option Addr) (c : Nat) (xs : List Nat) (s a : Nat) (hs : s < 4294967296) (hl : xs.length ≤ 1000) (ha : a ≤ xs.length) (w : World) (h : Sl w ao c xs) (hM : MaxL w) :
    Calls Try.prog 6 #[.slice ao xs.length c, .int .u32 s, .int .i64 a] w fun e w' => e = .returned (.bool true) ∧ Below w.heap.size w w' := by
  have K7 := Lib.hid (alive_any w hM)
  have HM := Lib.hid hM
  have htl : (xs.take a).length = a := by rw [List.length_take]; omega
  have hdl : (xs.drop a).length = xs.length - a := List.length_drop
  have HAT := Lib.hid (has_at ha hs)
  have HBZ : Hid (Bs (xs.take a ++ le s 4 ++ xs.drop a)) := Lib.hid (((h.bs.take a).app (le_bs _ _)).app (h.bs.drop a))
  have hC1 : ∀ W, Below w.heap.size w W → CellsAt W (.slice ao a c) a (u8s (xs.take a)) := fun W hW => by
    have := (sl_take (h.below hW) a).cells
    rwa [htl] at this
  have hcut : ∀ W, Below w.heap.size w W → CellsAt W (.slice (cutA ao c a) (xs.drop a).length (c - a)) (xs.drop a).length (u8s (xs.drop a)) := fun W hW => by
    have := ((h.below hW).cut' a (xs.length - a) (by omega)).cells
    rwa [show (xs.drop a).take (xs.length - a) = xs.drop a from List.take_of_length_le (by omega)] at this
  have hsl := slice_l ao xs.length c a ha
  rw [← hdl] at hsl
  have hslh := slice_h ao xs.length c a (by have := h.le; omega)
  obtain ⟨T, hT⟩ : ∃ T, T = xs.take a := ⟨_, rfl⟩
  obtain ⟨D, hD⟩ : ∃ D, D = xs.drop a := ⟨_, rfl⟩
  obtain ⟨A, hA⟩ : ∃ A, A = cutA ao c a := ⟨_, rfl⟩
  rw [← hT] at hC1 htl HAT HBZ
  rw [← hD] at hcut hdl hsl HAT HBZ
  rw [← hA] at hcut hsl
  have HC1 := Lib.hid hC1
  have HC2 := Lib.hid hcut
  have HTL := Lib.hid htl
  have HDL : Hid (D.length ≤ 1000) := Lib.hid (by omega)
  have hl' : ¬ (1000 : Int) < xs.length := by omega
  have d1 : decide ((1000 : Int) < xs.length) = false := by simp; omega
  have d2 : decide (1000 < xs.length) = false := by simp; omega
  have ha0 : ¬ (a : Int) < 0 := by omega
  have ha1 : ¬ (xs.length : Int) < a := by omega
  have hconv := conv_sign s hs
  obtain ⟨⟨i1, hi1, hi1a, hi1j, hi1h⟩, i2, hi2, hi2a, hi2j, hi2b, hi2h⟩ := ends HBZ.out hs HAT.out
  have hfi2 : (((i2 + 1 : Nat)) : Int) = (i2 : Int) + 1 := by omega
  obtain ⟨zs, hzs⟩ : ∃ zs, zs = T ++ le s 4 ++ D := ⟨_, rfl⟩
  rw [← hzs] at HBZ hi1 hi1j hi1h hi2 hi2j hi2b hi2h
  have HZ := Lib.hid hzs
  have hzl : a + 4 + D.length = zs.length := by rw [hzs, List.length_append, List.length_append, le_len, htl]
  have HZL := Lib.hid hzl
  have hz9 : zs.length ≤ 10000 := by omega
  have HZ9 := Lib.hid hz9
  have hi2l : i2 + 4 ≤ zs.length := hi2h.1
  have HI2L := Lib.hid hi2l
  have K13 := Lib.hid fun (W : World) (zo : Option Addr) (zc : Nat) (hS : Sl W zo zc zs) (hM : MaxL W) => first_any zo zc zs 0 0 (by omega) s hs i1 hi1 W hS hM (by omega)
  have K15 := Lib.hid fun (W : World) (zo : Option Addr) (zc : Nat) (hS : Sl W zo zc zs) => last_any zo zc zs s hs i2 hi2 W hS (by omega)
  have K13b := Lib.hid fun (W : World) (zo : Option Addr) (zc : Nat) (hS : Sl W zo zc zs) (hM : MaxL W) => first_any zo zc zs ((i2 : Int) + 1) (i2 + 1) (by omega) s hs (-1) hi2b W hS hM (by omega)
  have HJ1 := Lib.hid hi1j
  have HJ2 := Lib.hid hi2j
  have HI1 : Hid (i1 ≤ a) := Lib.hid hi1a
  have HI2 : Hid (a ≤ i2) := Lib.hid hi2a
  have HCB := Lib.hid (conv_back s hs)
  have h2h := Lib.hid hi2h
  have h1h := Lib.hid hi1h
  clear hi1 hi1j hi1h hi2 hi2j hi2b hi2h hzs hzl hfi2 hi1a hi2a hz9 hi2l
  clear hC1 hcut htl hdl hT hD hA h hM hs
  go_enter Try.func6, Try.ntmps6
  go_wp2_with fail
  refine K7.out.mono ?_
  rintro e w1 ⟨rfl, hb1⟩
  have HB := Lib.hid hb1
  clear hb1
  go_upto_region 5 with fail
  go_wp2_with (at_builtin; refine wpList_append_x at22 rfl (.tmp 29) (.tmp 32) rfl w.heap.size (.slice (some ⟨w1.heap.size, 0, none⟩) 0 0) (.slice ao a c) 0 a [] (u8s T) rfl rfl (own_base (own_empty w1 5 1) HB.out.size) (HC1.out _ (HB.out.alloc HB.out.size _)) (by rw [u8s_len, HTL.out, Nat.mul_one]) (u8s_one T) (by have := HB.out.size; simp; omega) (by omega) (by omega) ?c2)
  case c2 =>
  intro va vc w2 hA2
  have hA2' : Apd (w1.alloc (.cells #[] 5)) w.heap.size 5 1 (.slice (some ⟨w1.heap.size, 0, none⟩) 0 0) a (u8s T) (.slice va a vc) w2 := by simpa using hA2
  have HO2 := Lib.hid hA2'.own
  have HB2 := Lib.hid ((HB.out.alloc HB.out.size _).trans (hA2'.below (own_base (own_empty w1 5 1) HB.out.size) (by have := HB.out.size; simp; omega)))
  clear hA2 hA2' hslh
  go_wp2_with (first
    | (go_at_call 19; refine (write_sign w2 s).mono ?_; rintro e w3 ⟨ao3, c3, rfl, hsl3, hb3⟩; have hb3' : Below w2.heap.size w2 w3 := ((Below.refl _ w2).alloc (Nat.le_refl _) _).trans (hb3.mono (by omega)); have HB3 := Lib.hid (HB2.out.trans (hb3'.mono HB2.out.size)); have HO3 := Lib.hid (ownsRow_below HO2.out hb3'); have HC3 := Lib.hid hsl3.cells; clear hsl3 hb3 hb3')
    | (at_builtin; refine wpList_append_x at22 rfl (.tmp 34) (.tmp 39) rfl w.heap.size (.slice va a vc) (.slice ao3 4 c3) a 4 (u8s T) (u8s (le s 4)) rfl rfl HO3.out (by have := HC3.out; rwa [le_len] at this) (by rw [u8s_len, le_len]) (u8s_one _) HB3.out.size (by omega) (by omega) ?c3))
  case c3 =>
  clear hconv
  intro va4 vc4 w4 hA4
  have HO4 := Lib.hid hA4.own
  have HB4 := Lib.hid (HB3.out.trans (hA4.below HO3.out HB3.out.size))
  clear hA4
  go_wp2_with (at_builtin; refine wpList_append_x at22 rfl (.tmp 41) (.tmp 44) rfl w.heap.size (.slice va4 (a + 4) vc4) (.slice A D.length (c - a)) (a + 4) D.length (u8s T ++ u8s (le s 4)) (u8s D) rfl rfl HO4.out (HC2.out _ HB4.out) (by rw [u8s_len, Nat.mul_one]) (u8s_one _) HB4.out.size (by have := HDL.out; omega) (by have := HDL.out; omega) ?c4)
  case c4 =>
  intro va5 vc5 w5 hA5
  have hO5 := hA5.own
  rw [u8s_app, u8s_app, ← List.append_assoc, ← HZ.out, HZL.out] at hO5
  have HB5 := Lib.hid (HB4.out.trans (hA5.below HO4.out HB4.out.size))
  have HS5 := Lib.hid (own_sl hO5 HBZ.out)
  rw [HZL.out]
  clear hA5 hO5 hsl
  have f1 : ¬ (i1 : Int) < 0 := by omega
  have f2 : ¬ (a : Int) < i1 := by have := HI1.out; omega
  have f3 : ¬ (i2 : Int) < a := by have := HI2.out; omega
  have g2 : decide ((a : Int) < i1) = false := by simp; have := HI1.out; omega
  have g3 : decide ((i2 : Int) < a) = false := by simp; have := HI2.out; omega
  have g4 : decide (a < i1) = false := by simp; have := HI1.out; omega
  have g5 : decide (i2 < a) = false := by simp; have := HI2.out; omega
  go_wp2_with (first
    | (go_at_call 13; (with_reducible refine (K13.out w5 _ _ HS5.out (HM.out.below HB5.out)).mono ?_); rintro e w6 ⟨rfl, hb6⟩; have HB6 := Lib.hid (HB5.out.trans (hb6.mono HB5.out.size)); have HS6 := Lib.hid (HS5.out.below hb6); clear hb6)
    | (go_at_call 15; (with_reducible refine (K15.out w6 _ _ HS6.out).mono ?_); rintro e w7 ⟨rfl, hb7⟩; have HB7 := Lib.hid (HB6.out.trans (hb7.mono HB6.out.size)); have HS7 := Lib.hid (HS6.out.below hb7); clear hb7))
  clear g2 g3 g4 g5 f1 f2 f3
  go_loop [10] (fun vi => ∃ k : Nat, k ≤ zs.length + 1 ∧ vi = .int .i64 k) (fun vi => zs.length + 1 - (intOf vi).toNat)
  case atStart => exact ⟨0, by omega, rfl⟩
  case round =>
    obtain ⟨k, hk, rfl⟩ := hrel
    have hz9 := HZ9.out
    by_cases hlt : k ≤ zs.length
    · have hkk : (k : Int) ≤ zs.length := by omega
      by_cases hh : Has zs s k
      · have f1 : ¬ (k : Int) < i1 := by have := HJ1.out k hh; omega
        have f2 : ¬ (i2 : Int) < k := by have := HJ2.out k hh; omega
        have g1 : decide ((k : Int) < i1) = false := by simp; omega
        have g2 : decide ((i2 : Int) < k) = false := by simp; omega
        have K10 := Lib.hid (show Calls Try.prog 10 #[.slice va5 zs.length vc5, .int .i64 k] w7 fun e w' => e = .returned (.tuple #[.int .i64 s, .bool true]) ∧ w7 = w' by
          have := u32_ok va5 vc5 zs k w7 HS7.out hh.1
          rwa [hh.2] at this)
        have hcb := HCB.out
        clear hh
        go_wp2_with (go_at_call 10; (with_reducible refine K10.out.mono ?_); rintro e w' ⟨rfl, rfl⟩)
        go_round
        case rel => exact ⟨k + 1, by omega, by go_num⟩
        case measure => simp [intOf]; omega
      · have n1 : ¬ (k : Int) = i1 := fun e => hh (by
          have : k = i1 := by omega
          rw [this]; exact h1h.out)
        have n2 : ¬ (k : Int) = i2 := fun e => hh (by
          have : k = i2 := by omega
          rw [this]; exact h2h.out)
        have m1 : decide ((k : Int) = i1) = false := by simp; omega
        have m2 : decide ((k : Int) = i2) = false := by simp; omega
        have m3 : ((k : Int) == (i1 : Int)) = false := by simp; omega
        have m4 : ((k : Int) == (i2 : Int)) = false := by simp; omega
        by_cases h4 : k + 4 ≤ zs.length
        · have K := u32_ok va5 vc5 zs k w7 HS7.out h4
          have hz := win_lt HBZ.out k 4 (by omega)
          obtain ⟨z, hzz⟩ : ∃ z, z = num ((zs.drop k).take 4) := ⟨_, rfl⟩
          rw [← hzz] at K hz
          have he : ¬ z = s := fun e => hh ⟨h4, by rw [← hzz, e]⟩
          have hcz := conv_back z hz
          have he' : decide ((z : Int) = s) = false := by simp; omega
          have he2 : ¬ (z : Int) = s := by omega
          have he3 : ((z : Int) == (s : Int)) = false := by simp; omega
          have K10 := Lib.hid K
          clear hh K hz hzz he
          go_wp2_with (go_at_call 10; (with_reducible refine K10.out.mono ?_); rintro e w' ⟨rfl, rfl⟩)
          go_round
          case rel => exact ⟨k + 1, by omega, by go_num⟩
          case measure => simp [intOf]; omega
        · have K10 := Lib.hid (u32_no va5 vc5 zs.length k w7 (by unfold maxLen; omega) (by omega))
          clear hh
          go_wp2_with (go_at_call 10; (with_reducible refine K10.out.mono ?_); rintro e w' ⟨rfl, rfl⟩)
          go_round
          case rel => exact ⟨k + 1, by omega, by go_num⟩
          case measure => simp [intOf]; omega
    · have hkk : ¬ (k : Int) ≤ zs.length := by omega
      have hi2 : (i2 : Int) ≤ 10000 := by have := HI2L.out; omega
      go_wp2_with (go_at_call 13; (with_reducible refine (K13b.out w7 _ _ HS7.out (HM.out.below HB7.out)).mono ?_); rintro e w8 ⟨rfl, hb8⟩; have HB8 := Lib.hid (HB7.out.trans (hb8.mono HB7.out.size)); clear hb8)
      go_ret
      exact ⟨rfl, HB8.out⟩

theorem walk (ao : Option Addr) (c : Nat) (xs : List Nat) (S at_ : Int) (hS : 0 ≤ S ∧ S ≤ 4294967295) (w : World) (h : Sl w ao c xs) (hM : MaxL w) :
    Calls Try.prog 6 #[.slice ao xs.length c, .int .u32 S, .int .i64 at_] w fun e w' => e = .returned (.bool true) ∧ Below w.heap.size w w' := by
  by_cases hl : 1000 < xs.length ∨ at_ < 0 ∨ (xs.length : Int) < at_
  · exact walk_long ao c xs.length S at_ hl w hM
  · obtain ⟨s, rfl⟩ := Int.eq_ofNat_of_zero_le hS.1
    obtain ⟨a, rfl⟩ := Int.eq_ofNat_of_zero_le (show 0 ≤ at_ by omega)
    exact walk_inside ao c xs s a (by omega) (by omega) (by omega) w h hM

set_option maxRecDepth 100000 in
theorem lifted (os : Os) (started : os.Started) (H : Type) (enc : TypeId × Value → H) :
    ReturnsInHanded {} Try.checked os 6 .any (Rows.cursorSignsSpec.pre6 enc Try.prog Try.f6 Rows.cursorSignsRow.domain false) (Rows.cursorSignsSpec.post enc Try.prog Try.f6 false true false false) := by
  refine returnsInHanded_of_change_shaped (C := Try.checked) own started (by kernel_rfl) Try.func6
    (ChangeSpec.witness6 (enc := enc) (C := Try.checked) false ⟨#[], #[.slice none 0 0, .int .u32 0, .int .i64 0], []⟩ 8 (by kernel_rfl) (by kernel_rfl) (by kernel_rfl) (by kernel_rfl)) ?_
  intro W base args ds gs before hval0 hW hcnd hsz hsh _
  have hM : MaxL W := lm185.s1_3 W hsh
  have hval : ∀ (j : Nat) t v, Try.f6.params[j]? = some t → args[j]? = some v → Value.okWide Try.prog W .any base t v := hval0
  have hW' := hW
  obtain ⟨p, q, hA0, hV, rfl, hfz, hnd⟩ := hW
  have hA : DataW.TrodAll enc Try.prog W 0 (fun _ => true) true Try.f6.params.toList args.toList ds p := hA0
  rw [Try.params6] at hA hval
  obtain ⟨v0, vs0, d0, ds0, p0, q0, hargs, rfl, rfl, h0, r0⟩ := trodAll_cons hA
  obtain ⟨v1, vs1, d1, ds1, p1, q1, rfl, rfl, rfl, h1, r1⟩ := trodAll_cons r0
  obtain ⟨v2, vs2, d2, ds2, p2, q2, rfl, rfl, rfl, h2, r2⟩ := trodAll_cons r1
  obtain ⟨rfl, rfl, rfl⟩ := trodAll_nil r2
  obtain rfl : args = #[v0, v1, v2] := by cases args; simp_all
  obtain ⟨rfl, rfl⟩ := trodVars_none hV
  obtain ⟨a0, len0, cap0, rfl⟩ := okWide_slice Try.underlying22 (hval 0 22 v0 rfl rfl)
  have k0 := h0
  have lt0 : ∀ x ∈ p0, x.block < W.heap.size := by obtain ⟨m, hm⟩ := k0; exact DataW.trod_lt m _ _ _ hm
  obtain ⟨xs0, rfl, hs0⟩ : ∃ xs : List Nat, xs.length = len0 ∧ Sl W a0 cap0 xs := by
    obtain ⟨fuel, hf⟩ := h0
    exact sl_open (by simpa [Value.cells] using hf)
  obtain ⟨N1, rfl, rfl, rfl, w1⟩ := open_int Try.underlying23 (hval 1 23 v1 rfl rfl) h1
  obtain ⟨N2, rfl, rfl, rfl, w2⟩ := open_int Try.underlying3 (hval 2 3 v2 rfl rfl) h2
  clear hA0 hval0
  refine (walk a0 cap0 xs0 N1 N2 (bounds_u32 w1) W hs0 hM).mono fun e W' ⟨he, bel⟩ => ?_
  subst he
  exact ⟨_, rfl, _, _, _, [], _, [], hW', trodAll_mk1 (shut_bool Try.underlying4 _), (trodAll_cons_mk (Below.trod laidOut (by kernel_rfl) (of_decide_eq_true (by kernel_rfl)) k0 bel lt0) (trodAll_cons_mk (shut_int Try.underlying23 w1) (trodAll_cons_mk (shut_int Try.underlying3 w2) trodAll_mk0))), rfl, bel.frame _, fun h => by cases h⟩

theorem over : Rows.cursorSignsRow.holds Try.pinned (OpenSpec.ofChange Rows.cursorSignsSpec) :=
  OpenClaim.holds_of_wide 6 Try.f6 rfl rfl rfl rfl rfl rfl rfl ⟨rfl, rfl, rfl, rfl, rfl⟩ rfl rfl rfl rfl rfl (by kernel_rfl) Try.func6 (by kernel_rfl)
    (of_decide_eq_true (by kernel_rfl)) (by unfold Func.isWrapper; first | (rw [if_pos (by decide +kernel)]; kernel_rfl) | (rw [if_neg (by decide +kernel)]; exact ⟨rfl, rfl⟩))
    (fun os started H enc _ => lifted os started H enc)

theorem proved : Rows.CursorSignsSaid := over
#print axioms proved
end Go.Proofs.Ytflabomkgkojlaa.cursorSigns
