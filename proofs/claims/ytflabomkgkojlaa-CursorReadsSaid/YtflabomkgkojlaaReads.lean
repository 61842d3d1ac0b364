/-
  CursorReads: for every row of bytes, whatever place and kinds, the law returns true and its arguments read as before. No condition.
-/
import Derived.Test.YtflabomkgkojlaaT
import Derived.Test.YtflabomkgkojlaaS
import Derived.Deep.RegionWith
namespace Go.Proofs.Ytflabomkgkojlaa.cursorReads
open Go.ChangeShapes Go.WideShapes Go.ChangeAt Go.RowKit
set_option linter.unusedVariables false

theorem walk_long (ao : Option Addr) (c L : Nat) (at_ : Int) (ka : Option Addr) (kc kn : Nat) (h : 3000 < L ∨ 40 < kn) (w : World) (hM : MaxL w) :
    Calls Try.prog 4 #[.slice ao L c, .int .i64 at_, .slice ka kn kc] w fun e w' => e = .returned (.bool true) ∧ Below w.heap.size w w' := by
  have K7 := Lib.hid (alive_any w hM)
  clear hM
  by_cases h1 : 3000 < L
  · have h' : (3000 : Int) < L := by omega
    go_enter Try.func4, Try.ntmps4
    go_wp2_with (go_at_call 7; (with_reducible refine K7.out.mono ?_); rintro e w1 ⟨rfl, hb1⟩; have HB := Lib.hid hb1; clear hb1)
    go_ret
    exact ⟨rfl, HB.out⟩
  · have h' : ¬ (3000 : Int) < L := by omega
    have h'' : (40 : Int) < kn := by omega
    go_enter Try.func4, Try.ntmps4
    go_wp2_with (go_at_call 7; (with_reducible refine K7.out.mono ?_); rintro e w1 ⟨rfl, hb1⟩; have HB := Lib.hid hb1; clear hb1)
    go_ret
    exact ⟨rfl, HB.out⟩

/-- The two readings, each from whatever world. -/
structure Rd (w : World) (ao : Option Addr) (c L : Nat) (at_ : Int) (ka : Option Addr) (kn kc : Nat) (ks : List Int) (R : Option (List Fd × Nat)) : Prop where
  a : ∀ W va vc, Below w.heap.size w W → KSrc W va ks → Calls Try.prog 16 #[.slice ao L c, .int .i64 at_, .slice va kn vc] W (ReadPost R W)
  b : ∀ W, Below w.heap.size w W → Calls Try.prog 17 #[.slice ao L c, .int .i64 at_, .slice ka kn kc] W (ReadPost R W)

theorem rd_any (ao : Option Addr) (c : Nat) (xs : List Nat) (at_ : Int) (ka : Option Addr) (kc : Nat) (ks : List Int) (w : World) (h : Sl w ao c xs) (hk : KSrc w ka ks) (h3 : xs.length ≤ 3000) (h4 : ks.length ≤ 40) :
    (Rd w ao c xs.length at_ ka ks.length kc ks none) ∨ ∃ (a : Nat) (fds : List Fd) (en : Nat), at_ = a ∧ a ≤ en ∧ en ≤ xs.length ∧ wrt fds = win xs a (en - a) ∧ fds.length = ks.length ∧ Rd w ao c xs.length at_ ka ks.length kc ks (some (fds, en)) := by
  by_cases ha : 0 ≤ at_ ∧ at_ ≤ xs.length
  · obtain ⟨a, rfl⟩ := Int.eq_ofNat_of_zero_le ha.1
    have hR : ∀ R, run xs (cnt ks) ks a [] = R → Rd w ao c xs.length a ka ks.length kc ks R := fun R hR =>
      ⟨fun W va vc hW hv => read_any ao c xs a va vc ks W (h.below hW) hv (by omega) (by omega) (by omega) R hR,
       fun W hW => rread_any ao c xs a ka kc ks W (h.below hW) (hk.below hW) (fun ad e hx => (h.below hW).block_lt hx ad e) (by omega) (by omega) (by omega) R hR⟩
    cases hr : run xs (cnt ks) ks a [] with
    | none => exact .inl (hR _ hr)
    | some p =>
      obtain ⟨fds, en⟩ := p
      obtain ⟨h1, h2, h5, h6⟩ := run_some h.bs (cnt ks) ks a [] fds en (by omega) hr
      exact .inr ⟨a, fds, en, rfl, h1, h2, by simpa [wrt] using h5, by simpa using h6, hR _ hr⟩
  · left
    have hno : at_ < 0 ∨ (xs.length : Int) < at_ := by omega
    exact ⟨fun W va vc hW hv => (read_out ao c xs.length at_ va ks.length vc hno W).mono fun e w' ⟨he, hw⟩ => ⟨he, hw ▸ Below.refl _ _⟩,
      fun W hW => (rread_out ao c xs.length at_ ka ks.length kc hno W).mono fun e w' ⟨he, hb⟩ => ⟨he, hb⟩⟩

theorem rd_post {f : Nat} {args : Array Value} {w : World} {fds : List Fd} {en : Nat} (h : Calls Try.prog f args w (ReadPost (some (fds, en)) w)) :
    Calls Try.prog f args w fun e w' => ∃ (lo : Option Addr) (lc : Nat) (l : List Fe), l.map (·.f) = fds ∧ l.length = fds.length ∧ e = .returned (.tuple #[.slice lo fds.length lc, .int .i64 (en : Nat), .bool true]) ∧ Fs w' lo l ∧ Below w.heap.size w w' :=
  h.mono fun e w' ⟨lo, lc, l, h1, h2, h3, h4⟩ => by
    have hl : l.length = fds.length := by rw [← h1, List.length_map]
    rw [hl] at h2
    exact ⟨lo, lc, l, h1, hl, h2, h3, h4⟩

set_option maxHeartbeats 6400000 in
set_option maxRecDepth 100000 in
theorem walk_none (ao : Option Addr) (c L : Nat) (at_ : Int) (ka : Option Addr) (kc : Nat) (ks : List Int) (w : World) (hM : MaxL w) (hk : KSrc w ka ks) (h3 : L ≤ 3000) (h4 : ks.length ≤ 40) (hR : Rd w ao c L at_ ka ks.length kc ks none) :
    Calls Try.prog 4 #[.slice ao L c, .int .i64 at_, .slice ka ks.length kc] w fun e w' => e = .returned (.bool true) ∧ Below w.heap.size w w' := by
  have K7 := Lib.hid (alive_any w hM)
  have HK := Lib.hid hk
  have HR := Lib.hid hR
  have K18 := Lib.hid fun W => same_any none none 0 0 [] [] W ⟨(fun x h => by cases h), .inl rfl⟩ ⟨(fun x h => by cases h), .inl rfl⟩ rfl (by simp)
  have h3' : ¬ (3000 : Int) < L := by omega
  have h4' : ¬ (40 : Int) < ks.length := by omega
  have d1 : decide ((3000 : Int) < L) = false := by simp; omega
  have d2 : decide (3000 < L) = false := by simp; omega
  have d3 : decide ((40 : Int) < ks.length) = false := by simp; omega
  have d4 : decide (40 < ks.length) = false := by simp; omega
  clear hk hM hR
  go_enter Try.func4, Try.ntmps4
  go_wp2_with (go_at_call 7; (with_reducible refine K7.out.mono ?_); rintro e w1 ⟨rfl, hb1⟩; have HB := Lib.hid hb1; clear hb1)
  go_loopw [7, 8] (fun vk vi wr => ∃ (k : Nat) (va : Option Addr) (vc : Nat), k ≤ ks.length ∧ vi = .int .i64 k ∧ vk = .slice va k vc ∧ wr.ownsRow w.heap.size 36 1 (.slice va k vc) k (kv (ks.take k)) ∧ Below w.heap.size w wr) (fun _ vi _ => ks.length - (intOf vi).toNat)
  case atStart => exact ⟨0, some ⟨w1.heap.size, 0, none⟩, 0, Nat.zero_le _, rfl, rfl, own_base (own_empty w1 36 1) HB.out.size, HB.out.alloc HB.out.size _⟩
  case round =>
    obtain ⟨k, va, vc, hk, rfl, rfl, hown, hbel⟩ := hrel
    have HO := Lib.hid hown
    have HB := Lib.hid hbel
    clear hown hbel
    by_cases hlt : k < ks.length
    · have hkk : (k : Int) < ks.length := by omega
      rcases (HK.out.below HB.out) with h0 | ⟨kb, ko, hka, hkc⟩
      · rw [h0] at hlt; simp at hlt
      subst hka
      have hcell := hkc k hlt
      have hstep := ktake_next ks k hlt
      obtain ⟨x, hx⟩ : ∃ x, x = ks.getD k 0 := ⟨_, rfl⟩
      rw [← hx] at hcell hstep
      have HST := Lib.hid hstep
      clear hkc hx hstep
      go_wp2_with (at_builtin; refine wpList_append_x at35 rfl (.tmp 32) (.tmp 37) rfl w.heap.size (.slice va k vc) _ k 1 (kv (ks.take k)) [.int .i64 x] rfl rfl (ownsRow_below HO.out ((Below.refl _ _).alloc (Nat.le_refl _) _)) (cells_oneB _ _ (by simp) 36 (.int .i64 x)) rfl (by intro u hu; rw [List.mem_singleton] at hu; subst hu; rfl) (by have := HB.out.size; simp; omega) (by omega) (by omega) ?c2)
      case c2 =>
      intro va2 vc2 w2 hA
      have hA2 := hA.alloc
      have HA := Lib.hid hA2
      have HB2 := Lib.hid (HB.out.trans (HA.out.below HO.out HB.out.size))
      clear hA hA2
      go_wp2
      go_roundw
      case rel => exact ⟨k + 1, va2, vc2, by omega, by go_num, rfl, by have := HA.out.own; rw [show [Value.int .i64 x] = kv [x] from rfl, kv_app, ← HST.out] at this; exact this, HB2.out⟩
      case measure => simp [intOf]; omega
    · have hkl : k = ks.length := by omega
      have hks : KSrc wr va ks := own_ks (by have := HO.out; rw [List.take_of_length_le (by omega)] at this; exact this) hkl.symm
      subst hkl
      have K16 := Lib.hid (HR.out.a wr va vc HB.out hks)
      clear hks
      go_wp2_with (first
        | (go_at_call 16; (with_reducible refine K16.out.mono ?_); rintro e w2 ⟨rfl, hb2⟩; have HB2 := Lib.hid (HB.out.trans (hb2.mono HB.out.size)); clear hb2)
        | (go_at_call 17; (with_reducible refine (HR.out.b _ HB2.out).mono ?_); rintro e w3 ⟨rfl, hb3⟩; have HB3 := Lib.hid (HB2.out.trans (hb3.mono HB2.out.size)); clear hb3)
        | (go_at_call 18; refine (K18.out _).mono ?_; rintro e w4 ⟨rfl, hd⟩; have HB4 := Lib.hid (hd.below HB3.out); clear hd))
      go_quiet (fail)
      go_wp2
      go_ret
      exact ⟨rfl, below_drewN HB4.out _⟩
set_option maxHeartbeats 6400000 in
set_option maxRecDepth 100000 in
theorem walk_some (ao : Option Addr) (c : Nat) (xs : List Nat) (a en : Nat) (fds : List Fd) (ka : Option Addr) (kc : Nat) (ks : List Int) (w : World) (h : Sl w ao c xs) (hM : MaxL w) (hk : KSrc w ka ks) (h3 : xs.length ≤ 3000) (h4 : ks.length ≤ 40) (hae : a ≤ en) (hen : en ≤ xs.length) (hw : wrt fds = win xs a (en - a)) (hfl : fds.length = ks.length) (hR : Rd w ao c xs.length a ka ks.length kc ks (some (fds, en))) :
    Calls Try.prog 4 #[.slice ao xs.length c, .int .i64 a, .slice ka ks.length kc] w fun e w' => e = .returned (.bool true) ∧ Below w.heap.size w w' := by
  have K7 := Lib.hid (alive_any w hM)
  have HK := Lib.hid hk
  have HRA := Lib.hid fun W va vc hW hv => rd_post (hR.a W va vc hW hv)
  have HRB := Lib.hid fun W hW => rd_post (hR.b W hW)
  obtain ⟨n, hn⟩ : ∃ n, n = fds.length := ⟨_, rfl⟩
  rw [← hn] at HRA HRB hfl
  subst hfl
  obtain ⟨ys, hys⟩ : ∃ ys, ys = win xs a (en - a) := ⟨_, rfl⟩
  have hyl : ys.length = en - a := by rw [hys]; exact win_len (by omega)
  have hcut := h.cut' a (en - a) (by omega)
  rw [show (xs.drop a).take (en - a) = ys from hys.symm] at hcut
  have hsl := slice_lh ao xs.length c a en hae (by have := h.le; omega)
  rw [← hyl] at hsl
  obtain ⟨A, hA⟩ : ∃ A, A = cutA ao c a := ⟨_, rfl⟩
  rw [← hA] at hsl hcut
  have HCUT := Lib.hid hcut
  have K18 := Lib.hid fun (W : World) (lo lo2 : Option Addr) (lc lc2 : Nat) (l l2 : List Fe) (hl : l.length = ks.length) (hF : Fs W lo l) (hF2 : Fs W lo2 l2) (he : l.map (·.f) = l2.map (·.f)) => (show Calls Try.prog 18 #[.slice lo ks.length lc, .slice lo2 ks.length lc2] W fun e w' => e = .returned (.bool true) ∧ Drew W w' by
    have := same_any lo lo2 lc lc2 l l2 W hF hF2 he (by omega)
    rw [hl] at this
    exact this)
  have K19 := Lib.hid fun (W : World) (lo : Option Addr) (lc : Nat) (l : List Fe) (hl : l.length = ks.length) (hF : Fs W lo l) (he : l.map (·.f) = fds) => (show Calls Try.prog 19 #[.slice lo ks.length lc] W (WrOk ys W) by
    have := write_any lo lc l W hF (by omega) ys (by rw [he, hw, hys]) (by omega)
    rw [hl] at this
    exact this)
  have HBS : Hid (Bs ys) := Lib.hid (by rw [hys]; exact (h.bs.drop _).take _)
  have h3' : ¬ (3000 : Int) < xs.length := by omega
  have h4' : ¬ (40 : Int) < ks.length := by omega
  have d1 : decide ((3000 : Int) < xs.length) = false := by simp; omega
  have d2 : decide (3000 < xs.length) = false := by simp; omega
  have d3 : decide ((40 : Int) < ks.length) = false := by simp; omega
  have d4 : decide (40 < ks.length) = false := by simp; omega
  clear hk hM hR hA hyl hys hw hcut h hn
  go_enter Try.func4, Try.ntmps4
  go_wp2_with (go_at_call 7; (with_reducible refine K7.out.mono ?_); rintro e w1 ⟨rfl, hb1⟩; have HB := Lib.hid hb1; clear hb1)
  go_loopw [7, 8] (fun vk vi wr => ∃ (k : Nat) (va : Option Addr) (vc : Nat), k ≤ ks.length ∧ vi = .int .i64 k ∧ vk = .slice va k vc ∧ wr.ownsRow w.heap.size 36 1 (.slice va k vc) k (kv (ks.take k)) ∧ Below w.heap.size w wr) (fun _ vi _ => ks.length - (intOf vi).toNat)
  case atStart => exact ⟨0, some ⟨w1.heap.size, 0, none⟩, 0, Nat.zero_le _, rfl, rfl, own_base (own_empty w1 36 1) HB.out.size, HB.out.alloc HB.out.size _⟩
  case round =>
    obtain ⟨k, va, vc, hk, rfl, rfl, hown, hbel⟩ := hrel
    have HO := Lib.hid hown
    have HB := Lib.hid hbel
    clear hown hbel
    by_cases hlt : k < ks.length
    · have hkk : (k : Int) < ks.length := by omega
      rcases (HK.out.below HB.out) with h0 | ⟨kb, ko, hka, hkc⟩
      · rw [h0] at hlt; simp at hlt
      subst hka
      have hcell := hkc k hlt
      have hstep := ktake_next ks k hlt
      obtain ⟨x, hx⟩ : ∃ x, x = ks.getD k 0 := ⟨_, rfl⟩
      rw [← hx] at hcell hstep
      have HST := Lib.hid hstep
      clear hkc hx hstep
      go_wp2_with (at_builtin; refine wpList_append_x at35 rfl (.tmp 32) (.tmp 37) rfl w.heap.size (.slice va k vc) _ k 1 (kv (ks.take k)) [.int .i64 x] rfl rfl (ownsRow_below HO.out ((Below.refl _ _).alloc (Nat.le_refl _) _)) (cells_oneB _ _ (by simp) 36 (.int .i64 x)) rfl (by intro u hu; rw [List.mem_singleton] at hu; subst hu; rfl) (by have := HB.out.size; simp; omega) (by omega) (by omega) ?c2)
      case c2 =>
      intro va2 vc2 w2 hA
      have hA2 := hA.alloc
      have HA := Lib.hid hA2
      have HB2 := Lib.hid (HB.out.trans (HA.out.below HO.out HB.out.size))
      clear hA hA2
      go_wp2
      go_roundw
      case rel => exact ⟨k + 1, va2, vc2, by omega, by go_num, rfl, by have := HA.out.own; rw [show [Value.int .i64 x] = kv [x] from rfl, kv_app, ← HST.out] at this; exact this, HB2.out⟩
      case measure => simp [intOf]; omega
    · have hkl : k = ks.length := by omega
      have hks : KSrc wr va ks := own_ks (by have := HO.out; rw [List.take_of_length_le (by omega)] at this; exact this) hkl.symm
      subst hkl
      have K16 := Lib.hid (HRA.out wr va vc HB.out hks)
      clear hks
      go_wp2_with fail
      (with_reducible refine K16.out.mono ?_)
      rintro e w2 ⟨lo, lc, l, hl, hln, rfl, hF, hb2⟩
      have HB2 := Lib.hid (HB.out.trans (hb2.mono HB.out.size))
      have HF := Lib.hid hF
      have HL := Lib.hid hl
      have HLN := Lib.hid hln
      clear hb2 hF hl hln
      go_wp2_with fail
      (with_reducible refine (HRB.out _ HB2.out).mono ?_)
      rintro e w3 ⟨lo2, lc2, l2, hl2, hln2, rfl, hF2, hb3⟩
      have HB3 := Lib.hid (HB2.out.trans (hb3.mono HB2.out.size))
      have K18' := Lib.hid (K18.out w3 lo lo2 lc lc2 l l2 HLN.out (HF.out.below hb3) hF2 (by rw [HL.out, hl2]))
      have HF3 := Lib.hid (HF.out.below hb3)
      clear hb3 hl2 hln2 hF2
      go_wp2_with fail
      (with_reducible refine K18'.out.mono ?_)
      rintro e w4 ⟨rfl, hd⟩
      have HB4 := Lib.hid (hd.below HB3.out)
      have HF4 := Lib.hid (HF3.out.below (drew_below hd))
      clear hd
      go_wp2_with fail
      have HB5 := Lib.hid HB4.out.drew
      have K19' := Lib.hid (K19.out w4.drew lo lc l HLN.out (HF4.out.drewN 1) HL.out)
      go_region_with (first
        | (go_at_call 19; (with_reducible refine K19'.out.mono ?_); rintro e w6 ⟨ao6, c6, rfl, hown6, hb6⟩; have HB6 := Lib.hid (HB5.out.trans (hb6.mono HB5.out.size)); have K12 := Lib.hid (same_eq ao6 A c6 (c - a) ys w6 (own_sl hown6 HBS.out) (HCUT.out.below HB6.out)); clear hown6 hb6)
        | (go_at_call 12; (with_reducible refine K12.out.mono ?_); rintro e w7 ⟨rfl, hd⟩; have HB7 := Lib.hid (hd.below HB6.out); clear hd))
      all_goals
        go_wp2
        go_ret
        exact ⟨rfl, HB7.out⟩

theorem walk (ao : Option Addr) (c : Nat) (xs : List Nat) (at_ : Int) (ka : Option Addr) (kc : Nat) (ks : List Int) (w : World) (h : Sl w ao c xs) (hk : KSrc w ka ks) (hM : MaxL w) :
    Calls Try.prog 4 #[.slice ao xs.length c, .int .i64 at_, .slice ka ks.length kc] w fun e w' => e = .returned (.bool true) ∧ Below w.heap.size w w' := by
  by_cases hl : 3000 < xs.length ∨ 40 < ks.length
  · exact walk_long ao c xs.length at_ ka kc ks.length hl w hM
  · rcases rd_any ao c xs at_ ka kc ks w h hk (by omega) (by omega) with hR | ⟨a, fds, en, rfl, h1, h2, h5, h6, hR⟩
    · exact walk_none ao c xs.length at_ ka kc ks w hM hk (by omega) (by omega) hR
    · exact walk_some ao c xs a en fds ka kc ks w h hM hk (by omega) (by omega) h1 h2 h5 h6 hR

set_option maxRecDepth 100000 in
theorem lifted (os : Os) (started : os.Started) (H : Type) (enc : TypeId × Value → H) :
    ReturnsInHanded {} Try.checked os 4 .any (Rows.cursorReadsSpec.pre6 enc Try.prog Try.f4 Rows.cursorReadsRow.domain false) (Rows.cursorReadsSpec.post enc Try.prog Try.f4 false true false false) := by
  refine returnsInHanded_of_change_shaped (C := Try.checked) own started (by kernel_rfl) Try.func4
    (ChangeSpec.witness6 (enc := enc) (C := Try.checked) false ⟨#[], #[.slice none 0 0, .int .i64 0, .slice none 0 0], []⟩ 8 (by kernel_rfl) (by kernel_rfl) (by kernel_rfl) (by kernel_rfl)) ?_
  intro W base args ds gs before hval0 hW hcnd hsz hsh _
  have hM : MaxL W := lm185.s1_3 W hsh
  have hval : ∀ (j : Nat) t v, Try.f4.params[j]? = some t → args[j]? = some v → Value.okWide Try.prog W .any base t v := hval0
  have hW' := hW
  obtain ⟨p, q, hA0, hV, rfl, hfz, hnd⟩ := hW
  have hA : DataW.TrodAll enc Try.prog W 0 (fun _ => true) true Try.f4.params.toList args.toList ds p := hA0
  rw [Try.params4] at hA hval
  obtain ⟨v0, vs0, d0, ds0, p0, q0, hargs, rfl, rfl, h0, r0⟩ := trodAll_cons hA
  obtain ⟨v1, vs1, d1, ds1, p1, q1, rfl, rfl, rfl, h1, r1⟩ := trodAll_cons r0
  obtain ⟨v2, vs2, d2, ds2, p2, q2, rfl, rfl, rfl, h2, r2⟩ := trodAll_cons r1
  obtain ⟨rfl, rfl, rfl⟩ := trodAll_nil r2
  obtain rfl : args = #[v0, v1, v2] := by cases args; simp_all
  obtain ⟨rfl, rfl⟩ := trodVars_none hV
  obtain ⟨a0, len0, cap0, rfl⟩ := okWide_slice Try.underlying22 (hval 0 22 v0 rfl rfl)
  have k0 := h0
  have lt0 : ∀ x ∈ p0, x.block < W.heap.size := by obtain ⟨m, hm⟩ := k0; exact DataW.trod_lt m _ _ _ hm
  obtain ⟨xs0, rfl, hs0⟩ : ∃ xs : List Nat, xs.length = len0 ∧ Sl W a0 cap0 xs := by
    obtain ⟨fuel, hf⟩ := h0
    exact sl_open (by simpa [Value.cells] using hf)
  obtain ⟨N1, rfl, rfl, rfl, w1⟩ := open_int Try.underlying3 (hval 1 3 v1 rfl rfl) h1
  obtain ⟨a2, len2, cap2, rfl⟩ := okWide_slice Try.underlying34 (hval 2 34 v2 rfl rfl)
  have k2 := h2
  have lt2 : ∀ x ∈ p2, x.block < W.heap.size := by obtain ⟨m, hm⟩ := k2; exact DataW.trod_lt m _ _ _ hm
  obtain ⟨ks2, rfl, hs2, hlm2⟩ : ∃ ks : List Int, ks.length = len2 ∧ KSrc W a2 ks ∧ ks.length ≤ maxLen := by
    obtain ⟨fuel, hf⟩ := h2
    exact ks_open (by simpa [Value.cells] using hf)
  clear hA0 hval0
  refine (walk a0 cap0 xs0 N1 a2 cap2 ks2 W hs0 hs2 hM).mono fun e W' ⟨he, bel⟩ => ?_
  subst he
  exact ⟨_, rfl, _, _, _, [], _, [], hW', trodAll_mk1 (shut_bool Try.underlying4 _), (trodAll_cons_mk (Below.trod laidOut (by kernel_rfl) (of_decide_eq_true (by kernel_rfl)) k0 bel lt0) (trodAll_cons_mk (shut_int Try.underlying3 w1) (trodAll_cons_mk (Below.trod laidOut (by kernel_rfl) (of_decide_eq_true (by kernel_rfl)) k2 bel lt2) trodAll_mk0))), rfl, bel.frame _, fun h => by cases h⟩

theorem over : Rows.cursorReadsRow.holds Try.pinned (OpenSpec.ofChange Rows.cursorReadsSpec) :=
  OpenClaim.holds_of_wide 4 Try.f4 rfl rfl rfl rfl rfl rfl rfl ⟨rfl, rfl, rfl, rfl, rfl⟩ rfl rfl rfl rfl rfl (by kernel_rfl) Try.func4 (by kernel_rfl)
    (of_decide_eq_true (by kernel_rfl)) (by unfold Func.isWrapper; first | (rw [if_pos (by decide +kernel)]; kernel_rfl) | (rw [if_neg (by decide +kernel)]; exact ⟨rfl, rfl⟩))
    (fun os started H enc _ => lifted os started H enc)

theorem proved : Rows.CursorReadsSaid := over
#print axioms proved
end Go.Proofs.Ytflabomkgkojlaa.cursorReads
