/-
  CursorBack: for every row of rows of bytes, either width, and whatever rest, the law returns true and its arguments read as before. No condition.
-/
import Derived.Test.YtflabomkgkojlaaX
import Derived.Deep.RegionWith
namespace Go.Proofs.Ytflabomkgkojlaa.cursorBack
open Go.ChangeShapes Go.WideShapes Go.ChangeAt Go.RowKit
set_option linter.unusedVariables false

theorem walk_long (a : Option Addr) (ac n : Nat) (lg : Bool) (ra : Option Addr) (rc rn : Nat) (h : 20 < n ∨ 1000 < rn) (w : World) (hM : MaxL w) :
    Calls Try.prog 5 #[.slice a n ac, .bool lg, .slice ra rn rc] w fun e w' => e = .returned (.bool true) ∧ Below w.heap.size w w' := by
  have K7 := Lib.hid (alive_any w hM)
  clear hM
  by_cases h1 : 20 < n
  · have h' : (20 : Int) < n := by omega
    go_enter Try.func5, Try.ntmps5
    go_wp2_with (go_at_call 7; (with_reducible refine K7.out.mono ?_); rintro e w1 ⟨rfl, hb1⟩; have HB := Lib.hid hb1; clear hb1)
    go_ret
    exact ⟨rfl, HB.out⟩
  · have h' : ¬ (20 : Int) < n := by omega
    have h'' : (1000 : Int) < rn := by omega
    go_enter Try.func5, Try.ntmps5
    go_wp2_with (go_at_call 7; (with_reducible refine K7.out.mono ?_); rintro e w1 ⟨rfl, hb1⟩; have HB := Lib.hid hb1; clear hb1)
    go_ret
    exact ⟨rfl, HB.out⟩

theorem rd_post {g : Nat} {args : Array Value} {w : World} {fds : List Fd} {en : Nat} (h : Calls Try.prog g args w (ReadPost (some (fds, en)) w)) :
    Calls Try.prog g args w fun e w' => ∃ (lo : Option Addr) (lc : Nat) (l : List Fe), l.map (·.f) = fds ∧ l.length = fds.length ∧ e = .returned (.tuple #[.slice lo fds.length lc, .int .i64 (en : Nat), .bool true]) ∧ Fs w' lo l ∧ Below w.heap.size w w' :=
  h.mono fun e w' ⟨lo, lc, l, h1, h2, h3, h4⟩ => by
    have hl : l.length = fds.length := by rw [← h1, List.length_map]
    rw [hl] at h2
    exact ⟨lo, lc, l, h1, hl, h2, h3, h4⟩
theorem three (l : List Fe) (f : Nat → El) (kd : Int) (n : Nat) (rest : List Nat) (h : l.map (·.f) = (bls f n).map (fN kd) ++ (bls f n).map fB ++ [⟨3, 0, rest⟩]) :
    (∀ i, i < n → ∃ x, l[i]? = some x ∧ x.f = fN kd (f i).b) ∧ (∀ i, i < n → ∃ x, l[n + i]? = some x ∧ x.f = fB (f i).b) ∧ ∃ x, l[2 * n]? = some x ∧ x.f = ⟨3, 0, rest⟩ := by
  have key : ∀ (i : Nat) (v : Fd), ((bls f n).map (fN kd) ++ (bls f n).map fB ++ [⟨3, 0, rest⟩])[i]? = some v → ∃ x, l[i]? = some x ∧ x.f = v := by
    intro i v hv
    rw [← h, List.getElem?_map] at hv
    cases hx : l[i]? with
    | none => rw [hx] at hv; cases hv
    | some x => rw [hx] at hv; exact ⟨x, rfl, by simpa using hv⟩
  have hbi : ∀ i, i < n → (bls f n)[i]? = some (f i).b := fun i hi => by simp [bls, hi]
  refine ⟨fun i hi => key i _ ?_, fun i hi => key _ _ ?_, key _ _ ?_⟩
  · rw [List.append_assoc, List.getElem?_append_left (by rw [List.length_map, bls_len]; exact hi), List.getElem?_map, hbi i hi]; rfl
  · rw [List.append_assoc, List.getElem?_append_right (by rw [List.length_map, bls_len]; omega), List.length_map, bls_len, Nat.add_sub_cancel_left, List.getElem?_append_left (by rw [List.length_map, bls_len]; exact hi), List.getElem?_map, hbi i hi]; rfl
  · rw [List.getElem?_append_right (by rw [List.length_append, List.length_map, List.length_map, bls_len]; omega), List.length_append, List.length_map, List.length_map, bls_len, show 2 * n - (n + n) = 0 from by omega]; rfl
theorem own_emptyB (w : World) (B e size : Nat) (hB : w.heap.size = B) : (w.alloc (.cells #[] e)).ownsRow B e size (.slice (some ⟨B, 0, none⟩) 0 0) 0 [] := by
  subst hB; exact own_empty w e size
theorem flat_le (bl : List (List Nat)) (h : ∀ b ∈ bl, b.length ≤ 1000) : bl.flatten.length ≤ bl.length * 1000 := by
  induction bl with
  | nil => simp
  | cons b r ih =>
    have h1 := h b (by simp)
    have h2 := ih fun x hx => h x (List.mem_cons_of_mem _ hx)
    rw [List.flatten_cons, List.length_append, List.length_cons, Nat.succ_mul]
    omega
theorem bls_le {f : Nat → El} {n : Nat} (h : ∀ j, j < n → (f j).b.length ≤ 1000) : ∀ b ∈ bls f n, b.length ≤ 1000 := by
  intro b hb
  obtain ⟨j, hj, rfl⟩ := List.mem_map.1 hb
  exact h j (List.mem_range.1 hj)
theorem bls_bs {w : World} {a : Option Addr} {n : Nat} {f : Nat → El} (h : LstF w a n f) : Bs (bls f n).flatten := by
  intro x hx
  obtain ⟨b, hb, hxb⟩ := List.mem_flatten.1 hx
  obtain ⟨j, hj, rfl⟩ := List.mem_map.1 hb
  obtain ⟨_, _, _, hE⟩ := h.get (Below.refl _ _) (List.mem_range.1 hj)
  exact hE.sl.bs x hxb
theorem hdr_bs (bl : List (List Nat)) (sz : Nat) : Bs (hdr bl sz) := by
  intro x hx
  obtain ⟨b, hb, hxb⟩ := List.mem_flatMap.1 hx
  exact le_bs _ _ x hxb


set_option maxHeartbeats 12800000 in
set_option maxRecDepth 100000 in
theorem walk_false (a : Option Addr) (ac n : Nat) (f : Nat → El) (ra : Option Addr) (rc : Nat) (rest : List Nat) (hn : n ≤ 20) (hr : rest.length ≤ 1000) (w : World) (hL : LstF w a n f) (hS : Sl w ra rc rest) (hM : MaxL w) :
    Calls Try.prog 5 #[.slice a n ac, .bool false, .slice ra rest.length rc] w fun e w' => e = .returned (.bool true) ∧ Below w.heap.size w w' := by
  have K7 := Lib.hid (alive_any w hM)
  have HL := Lib.hid hL
  have HS := Lib.hid hS
  have WD : Hid (Wd 0 2) := Lib.hid ⟨by omega⟩
  have h1' : ¬ (20 : Int) < n := by omega
  have h2' : ¬ (1000 : Int) < rest.length := by omega
  have d1 : decide ((20 : Int) < n) = false := by simp; omega
  have d2 : decide (20 < n) = false := by simp; omega
  have d3 : decide ((1000 : Int) < rest.length) = false := by simp; omega
  have d4 : decide (1000 < rest.length) = false := by simp; omega
  clear hL hS hM
  go_enter Try.func5, Try.ntmps5
  go_wp2_with fail
  (with_reducible refine K7.out.mono ?_)
  rintro e w1 ⟨rfl, hb1⟩
  have HB := Lib.hid hb1
  clear hb1
  go_wp2_with fail
  go_loopw [7, 8, 10] (fun v7 v8 vi wr => ∃ (i : Nat) (ko : Option Addr) (kc : Nat) (fo : Option Addr) (fc : Nat), i ≤ n ∧ vi = .int .i64 i ∧ v7 = .slice ko i kc ∧ v8 = .slice fo i fc ∧ Bk w ko kc fo fc i i (List.replicate i 0) (lN 0 f i) wr ∧ Hid (∀ j, j < i → (f j).b.length ≤ 1000)) (fun _ _ vi _ => n - (intOf vi).toNat)
  case atStart =>
    have hb2 : Below w1.heap.size w1 ((w1.alloc (.cells #[] 36)).alloc (.cells #[] 48)) := ((Below.refl _ _).alloc (Nat.le_refl _) _).alloc (by simp) _
    exact ⟨0, some ⟨w1.heap.size, 0, none⟩, 0, some ⟨w1.heap.size + 1, 0, none⟩, 0, Nat.zero_le _, rfl, rfl, rfl, ⟨ownsRow_below (own_base (own_empty w1 36 1) HB.out.size) ((Below.refl _ _).alloc (Nat.le_refl _) _), rfl, ⟨own_base (own_emptyB (w1.alloc (.cells #[] 36)) (w1.heap.size + 1) 48 3 (by simp)) (by have := HB.out.size; omega), (fun x h => by cases h), (fun x h => by cases h)⟩, rfl, (fun x h => by cases h), HB.out.trans (hb2.mono HB.out.size)⟩, Lib.hid fun j hj => by omega⟩
  case round =>
    obtain ⟨i, ko, kc, fo, fc, hi, rfl, rfl, rfl, hbk, hle⟩ := hrel
    have HK := Lib.hid hbk
    clear hbk
    by_cases hlt : i < n
    · have hii : (i : Int) < n := by omega
      obtain ⟨lb, lo, ha, hE⟩ := HL.out.get HK.out.below hlt
      subst ha
      obtain ⟨x, hx⟩ : ∃ x, x = f i := ⟨_, rfl⟩
      have HX := Lib.hid hx
      rw [← hx] at hE
      have HE := Lib.hid hE
      have cell := hE.cell
      clear hE hx
      by_cases hbig : 1000 < x.b.length
      · have hbig' : (1000 : Int) < x.b.length := by omega
        go_wp2
        go_ret
        exact ⟨rfl, HK.out.below⟩
      · have hbig' : ¬ (1000 : Int) < x.b.length := by omega
        go_wp2_with (at_builtin; refine wpList_append_x at35 rfl (.tmp 42) (.tmp 44) rfl w.heap.size (.slice ko i kc) _ i 1 (kv (List.replicate i 0)) [.int .i64 0] rfl rfl (ownsRow_below HK.out.k ((Below.refl _ _).alloc (Nat.le_refl _) _)) (cells_oneB _ _ rfl 36 (.int .i64 0)) rfl (by intro u hu; rw [List.mem_singleton] at hu; subst hu; rfl) (by have := HK.out.below.size; simp; omega) (by omega) (by omega) ?c2)
        case c2 =>
        intro ko2 kc2 w2 hA2
        have HK2 := Lib.hid (HK.out.addK hA2.alloc)
        have hbl : Below wr.heap.size wr w2 → True := fun _ => trivial
        obtain ⟨_, _, ha2, hE2⟩ := HL.out.get HK2.out.below hlt
        simp only [Option.some.injEq, Addr.mk.injEq, and_true] at ha2
        obtain ⟨rfl, rfl⟩ := ha2
        rw [← HX.out] at hE2
        have cell2 := hE2.cell
        clear hA2 hE2 hbl
        go_wp2_with (at_builtin; refine wpList_append_x at37 rfl (.tmp 46) (.tmp 54) rfl w.heap.size (.slice fo i fc) _ i 1 (fcells (lN 0 f i)) (Fe.cells ⟨⟨0, x.b.length, []⟩, none, 0⟩) rfl rfl (ownsRow_below HK2.out.fo_ ((Below.refl _ _).alloc (Nat.le_refl _) _)) (cells_feB _ _ rfl 48 ⟨⟨0, x.b.length, []⟩, none, 0⟩) rfl (fe_one _) (by have := HK2.out.below.size; simp; omega) (by omega) (by omega) ?c3)
        case c3 =>
        intro fo3 fc3 w3 hA3
        have HK3 := Lib.hid (HK2.out.addF (Sl.none_ _) (fun hne => absurd rfl hne) hA3.alloc)
        clear hA3 cell2 cell
        go_wp2
        go_roundw
        case rel => exact ⟨i + 1, ko2, kc2, fo3, fc3, by omega, by go_num, rfl, rfl, by have := HK3.out; rw [HX.out] at this; rw [lN_succ, List.replicate_succ']; exact this, Lib.hid fun j hj => by
          by_cases e : j = i
          · subst e; rw [← HX.out]; omega
          · exact hle.out j (by omega)⟩
        case measure => simp [intOf]; omega
    · have hin : i = n := by omega
      subst hin
      have hii : ¬ (i : Int) < i := by omega
      clear hlt
      go_wp2_with fail
      have HLE : Hid (∀ j, j < i → (f j).b.length ≤ 1000) := hle
      clear hle hii
      go_loopw [7, 8, 11] (fun v7 v8 vi wr2 => ∃ (j : Nat) (ko2 : Option Addr) (kc2 : Nat) (fo2 : Option Addr) (fc2 : Nat), j ≤ i ∧ vi = .int .i64 j ∧ v7 = .slice ko2 (i + j) kc2 ∧ v8 = .slice fo2 (i + j) fc2 ∧ Bk w ko2 kc2 fo2 fc2 (i + j) (i + j) (List.replicate i 0 ++ List.replicate j 2) (lN 0 f i ++ lB f j) wr2) (fun _ _ vi _ => i - (intOf vi).toNat)
      case atStart => exact ⟨0, ko, kc, fo, fc, Nat.zero_le _, rfl, rfl, rfl, by simpa [lB] using HK.out⟩
      case round =>
        clear HK
        obtain ⟨j, ko2, kc2, fo2, fc2, hj, rfl, rfl, rfl, hbk⟩ := hrel
        have HK := Lib.hid hbk
        clear hbk
        by_cases hlt : j < i
        · have hii : (j : Int) < i := by omega
          obtain ⟨x, hx⟩ : ∃ x, x = f j := ⟨_, rfl⟩
          have HX := Lib.hid hx
          have HAR : Hid (x.b ≠ [] → ∀ ad, x.ao = some ad → ad.block < w.heap.size) := Lib.hid fun hne ad had => by
            obtain ⟨_, _, _, hE⟩ := HL.out.get (Below.refl _ _) hlt
            rw [← hx] at hE
            exact hE.sl.block_lt hne ad had
          clear hx
          go_wp2_with (at_builtin; refine wpList_append_x at35 rfl (.tmp 62) (.tmp 63) rfl w.heap.size (.slice ko2 (i + j) kc2) _ (i + j) 1 (kv (List.replicate i 0 ++ List.replicate j 2)) [.int .i64 2] rfl rfl (ownsRow_below HK.out.k ((Below.refl _ _).alloc (Nat.le_refl _) _)) (cells_oneB _ _ rfl 36 (.int .i64 2)) rfl (by intro u hu; rw [List.mem_singleton] at hu; subst hu; rfl) (by have := HK.out.below.size; simp; omega) (by omega) (by omega) ?c2)
          case c2 =>
          intro ko3 kc3 w2 hA2
          have HK2 := Lib.hid (HK.out.addK hA2.alloc)
          obtain ⟨lb, lo, ha, hE⟩ := HL.out.get HK2.out.below hlt
          subst ha
          rw [← HX.out] at hE
          have cell2 := hE.cell
          have HSX := Lib.hid hE.sl
          clear hA2 hE
          go_wp2_with (at_builtin; refine wpList_append_x at37 rfl (.tmp 65) (.tmp 71) rfl w.heap.size (.slice fo2 (i + j) fc2) _ (i + j) 1 (fcells (lN 0 f i ++ lB f j)) (Fe.cells ⟨⟨2, 0, x.b⟩, x.ao, x.c⟩) rfl rfl (ownsRow_below HK2.out.fo_ ((Below.refl _ _).alloc (Nat.le_refl _) _)) (cells_feB _ _ rfl 48 ⟨⟨2, 0, x.b⟩, x.ao, x.c⟩) rfl (fe_one _) (by have := HK2.out.below.size; simp; omega) (by omega) (by omega) ?c3)
          case c3 =>
          intro fo3 fc3 w3 hA3
          have HK3 := Lib.hid (HK2.out.addF (x := ⟨⟨2, 0, x.b⟩, x.ao, x.c⟩) HSX.out HAR.out hA3.alloc)
          clear hA3 cell2
          go_wp2
          go_roundw
          case rel => exact ⟨j + 1, ko3, kc3, fo3, fc3, by omega, by go_num, rfl, rfl, by have := HK3.out; rw [HX.out] at this; rw [lB_succ, List.replicate_succ', ← List.append_assoc, ← List.append_assoc]; exact this⟩
          case measure => simp [intOf]; omega
        · have hji : j = i := by omega
          subst hji
          clear hlt hj
          have HBL : Hid (∀ b ∈ bls f j, b.length ≤ 1000) := Lib.hid (bls_le HLE.out)
          have HWR : Hid (wrt ((lN 0 f j ++ lB f j).map (·.f)) = hdr (bls f j) 2 ++ (bls f j).flatten) := Lib.hid (by
            rw [List.map_append, lN_map, lB_map, wrt_back WD.out])
          obtain ⟨BW, hBW⟩ : ∃ BW, BW = hdr (bls f j) 2 ++ (bls f j).flatten := ⟨_, rfl⟩
          have hbwl : BW.length ≤ 30000 := by
            rw [hBW, List.length_append, hdr_len, bls_len]
            have := flat_le _ HBL.out
            rw [bls_len] at this
            omega
          have HBB : Hid (Bs BW) := Lib.hid (by rw [hBW]; exact (hdr_bs _ _).app (bls_bs HL.out))
          obtain ⟨xs, hxs⟩ : ∃ xs, xs = BW ++ rest := ⟨_, rfl⟩
          obtain ⟨ks, hks⟩ : ∃ ks : List Int, ks = List.replicate j 0 ++ List.replicate j 2 ++ [3] := ⟨_, rfl⟩
          have hkl : ks.length = j + j + 1 := by rw [hks]; simp; omega
          have hrun := run_back WD.out (bls f j) HBL.out rest xs (by rw [hxs, hBW, List.append_assoc]) ks (by rw [hks, bls_len, List.append_assoc])
          obtain ⟨fds, hfds⟩ : ∃ fds, fds = (bls f j).map (fN 0) ++ (bls f j).map fB ++ [⟨3, 0, rest⟩] := ⟨_, rfl⟩
          rw [← hfds] at hrun
          have hfl : fds.length = j + j + 1 := by rw [hfds]; simp [bls_len]; omega
          have hxl : BW.length + rest.length = xs.length := by rw [hxs, List.length_append]
          rw [← hBW] at HWR
          have HRUN := Lib.hid hrun
          have HFD := Lib.hid hfds
          have HFL := Lib.hid hfl
          have HKL := Lib.hid hkl
          have HXL := Lib.hid hxl
          have HXS := Lib.hid hxs
          have HKS := Lib.hid hks
          have HRB : Hid (Bs rest) := Lib.hid HS.out.bs
          clear hrun hfds hfl hkl hxl hxs hks hBW
          go_wp2_with (at_builtin; refine wpList_append_x at35 rfl (.tmp 73) (.tmp 74) rfl w.heap.size (.slice ko2 (j + j) kc2) _ (j + j) 1 (kv (List.replicate j 0 ++ List.replicate j 2)) [.int .i64 3] rfl rfl (ownsRow_below HK.out.k ((Below.refl _ _).alloc (Nat.le_refl _) _)) (cells_oneB _ _ rfl 36 (.int .i64 3)) rfl (by intro u hu; rw [List.mem_singleton] at hu; subst hu; rfl) (by have := HK.out.below.size; simp; omega) (by omega) (by omega) ?c2)
          case c2 =>
          intro ko3 kc3 w2 hA2
          have HK2 := Lib.hid (HK.out.addK hA2.alloc)
          have K19 := write_any fo2 fc2 (lN 0 f j ++ lB f j) w2 HK2.out.fs (by rw [HK2.out.hl]; omega) BW HWR.out (by omega)
          rw [HK2.out.hl] at K19
          have K19 := Lib.hid K19
          clear hA2
          go_wp2_with fail
          (with_reducible refine K19.out.mono ?_)
          rintro e w3 ⟨bo, bc, rfl, hown, hb3⟩
          have HB3 := Lib.hid (HK2.out.below.trans (hb3.mono HK2.out.below.size))
          have HO3 := Lib.hid hown
          have HB23 := Lib.hid hb3
          clear hown hb3 K19
          go_wp2_with (at_builtin; refine wpList_append_x at22 rfl (.tmp 77) (.tmp 78) rfl w2.heap.size (.slice bo BW.length bc) (.slice ra rest.length rc) BW.length rest.length (u8s BW) (u8s rest) rfl rfl HO3.out (HS.out.below HB3.out).cells (by rw [u8s_len, Nat.mul_one]) (u8s_one _) HB23.out.size (by omega) (by omega) ?c3)
          case c3 =>
          intro xo xc w4 hA4
          have hO4 := hA4.own
          rw [u8s_app, ← HXS.out, HXL.out] at hO4
          have hb24 : Below w2.heap.size w2 w4 := HB23.out.trans (hA4.below HO3.out HB23.out.size)
          have HB4 := Lib.hid (HK2.out.below.trans (hb24.mono HK2.out.below.size))
          have hks4 : KSrc w4 ko3 ks := by rw [HKS.out]; exact HK2.out.ks_.below hb24
          have HX4 := Lib.hid (own_sl hO4 (by rw [HXS.out]; exact HBB.out.app HRB.out))
          have K16 := (show Calls Try.prog 16 #[.slice xo xs.length xc, .int .i64 0, .slice ko3 ks.length kc3] w4 _ from rd_post (read_any xo xc xs 0 ko3 kc3 ks w4 HX4.out hks4 (Nat.zero_le _) (by have := HXL.out; omega) (by have := HKL.out; omega) _ HRUN.out))
          rw [HKL.out, HFL.out] at K16
          obtain ⟨N, hN⟩ : ∃ N, N = j + j + 1 := ⟨_, rfl⟩
          rw [← hN] at K16 ⊢
          have hNI : (N : Int) = 2 * (j : Int) + 1 := by omega
          have HNN : Hid (N = 2 * j + 1) := Lib.hid (by omega)
          have K16 := Lib.hid K16
          rw [HXL.out]
          clear hA4 hO4 hN hb24 hks4
          go_wp2_with fail
          (with_reducible refine K16.out.mono ?_)
          rintro e w5 ⟨lo, lc, l, hl, hln, rfl, hF, hb5⟩
          have HB5 := Lib.hid (HB4.out.trans (hb5.mono HB4.out.size))
          have HF := Lib.hid hF
          have HTH := Lib.hid (three l f 0 j rest (by rw [hl, HFD.out]))
          clear hl hln hF hb5 hbwl
          go_wp2_with fail
          clear hNI
          go_loopg [16] j (fun gh vi wr => ∃ (i q : Nat), i ≤ j ∧ j - i ≤ gh ∧ vi = .int .i64 i ∧ wr = w5.drewN q)
          case atStart => exact ⟨0, 0, Nat.zero_le _, by omega, rfl, rfl⟩
          case round =>
            obtain ⟨i, q, hi2, hgh, rfl, hwr⟩ := hrel
            have HQ := Lib.hid hwr
            have HFr : Hid (Fs wr lo l) := Lib.hid (by rw [hwr]; exact HF.out.drewN q)
            have HBr : Hid (Below w.heap.size w wr) := Lib.hid (by rw [hwr]; exact below_drewN HB5.out q)
            clear hwr
            by_cases hlt : i < j
            · have hii : (i : Int) < j := by omega
              obtain ⟨x, hx, hxf⟩ := HTH.out.1 i hlt
              obtain ⟨y, hy, hyf⟩ := HTH.out.2.1 i hlt
              obtain ⟨g, rfl, hX⟩ := HFr.out.get hx
              obtain ⟨g2, hg2, hY⟩ := HFr.out.get hy
              simp only [Option.some.injEq, Addr.mk.injEq, and_true] at hg2
              subst hg2
              obtain ⟨lb, lof, ha, hE⟩ := HL.out.get HBr.out hlt
              subst ha
              obtain ⟨el, hel⟩ : ∃ el, el = f i := ⟨_, rfl⟩
              rw [← hel] at hE hxf hyf
              have c1 := hX.c1
              have c2 := hY.c2
              have sy := hY.sl
              rw [hxf] at c1
              rw [hyf] at c2 sy
              simp only [fN, fB] at c1 c2 sy
              have ce := hE.cell
              have SY := Lib.hid sy
              have SE := Lib.hid hE.sl
              have KS := Lib.hid fun (m : Nat) => same_eq y.ao el.ao y.c el.c el.b (wr.drewN m) (SY.out.drewN m) (SE.out.drewN m)
              have hw : IntKind.i64.wrap ((j : Int) + i) = (j : Int) + i := by rw [IntKind.wrap_i64]; omega
              have hto : ((j : Int) + i).toNat = j + i := by omega
              have hNi : (i : Int) < N := by have := HNN.out; omega
              have hNj : (j : Int) + i < N := by have := HNN.out; omega
              have hpos : (0 : Int) ≤ (j : Int) + i := by omega
              clear hX hY hE hx hxf hy hyf hel sy
              go_wp2_with fail
              go_quiet ((go_at_call 12; exact Calls.quiet_of (KS.out _)))
              clear hw
              go_wp2
              go_roundg (j - (i + 1))
              case measure => omega
              case rel => exact ⟨i + 1, _, by omega, Nat.le_refl _, by go_num, (by rw [HQ.out]; exact World.drewN_drewN _ _ _)⟩
            · have hij : i = j := by omega
              obtain ⟨z, hz, hzf⟩ := HTH.out.2.2
              obtain ⟨g, rfl, hZ⟩ := HFr.out.get hz
              have c2 := hZ.c2
              have sz := hZ.sl
              rw [hzf] at c2 sz
              simp only at c2 sz
              have KS := Lib.hid (same_eq z.ao ra z.c rc rest wr sz (HS.out.below HBr.out))
              have hto : ((2 : Int) * j).toNat = 2 * j := by omega
              have hNj : (2 : Int) * j < N := by have := HNN.out; omega
              have hni : ¬ (i : Int) < j := by omega
              clear hZ hz hzf sz
              go_wp2_with (go_at_call 12; (with_reducible refine KS.out.mono ?_); rintro e w8 ⟨rfl, hd⟩; have HB8 := Lib.hid (hd.below HBr.out); clear hd)
              go_ret
              exact ⟨rfl, HB8.out⟩

set_option maxHeartbeats 12800000 in
set_option maxRecDepth 100000 in
theorem walk_true (a : Option Addr) (ac n : Nat) (f : Nat → El) (ra : Option Addr) (rc : Nat) (rest : List Nat) (hn : n ≤ 20) (hr : rest.length ≤ 1000) (w : World) (hL : LstF w a n f) (hS : Sl w ra rc rest) (hM : MaxL w) :
    Calls Try.prog 5 #[.slice a n ac, .bool true, .slice ra rest.length rc] w fun e w' => e = .returned (.bool true) ∧ Below w.heap.size w w' := by
  have K7 := Lib.hid (alive_any w hM)
  have HL := Lib.hid hL
  have HS := Lib.hid hS
  have WD : Hid (Wd 1 4) := Lib.hid ⟨by omega⟩
  have h1' : ¬ (20 : Int) < n := by omega
  have h2' : ¬ (1000 : Int) < rest.length := by omega
  have d1 : decide ((20 : Int) < n) = false := by simp; omega
  have d2 : decide (20 < n) = false := by simp; omega
  have d3 : decide ((1000 : Int) < rest.length) = false := by simp; omega
  have d4 : decide (1000 < rest.length) = false := by simp; omega
  clear hL hS hM
  go_enter Try.func5, Try.ntmps5
  go_wp2_with fail
  (with_reducible refine K7.out.mono ?_)
  rintro e w1 ⟨rfl, hb1⟩
  have HB := Lib.hid hb1
  clear hb1
  go_wp2_with fail
  go_loopw [7, 8, 10] (fun v7 v8 vi wr => ∃ (i : Nat) (ko : Option Addr) (kc : Nat) (fo : Option Addr) (fc : Nat), i ≤ n ∧ vi = .int .i64 i ∧ v7 = .slice ko i kc ∧ v8 = .slice fo i fc ∧ Bk w ko kc fo fc i i (List.replicate i 1) (lN 1 f i) wr ∧ Hid (∀ j, j < i → (f j).b.length ≤ 1000)) (fun _ _ vi _ => n - (intOf vi).toNat)
  case atStart =>
    have hb2 : Below w1.heap.size w1 ((w1.alloc (.cells #[] 36)).alloc (.cells #[] 48)) := ((Below.refl _ _).alloc (Nat.le_refl _) _).alloc (by simp) _
    exact ⟨0, some ⟨w1.heap.size, 0, none⟩, 0, some ⟨w1.heap.size + 1, 0, none⟩, 0, Nat.zero_le _, rfl, rfl, rfl, ⟨ownsRow_below (own_base (own_empty w1 36 1) HB.out.size) ((Below.refl _ _).alloc (Nat.le_refl _) _), rfl, ⟨own_base (own_emptyB (w1.alloc (.cells #[] 36)) (w1.heap.size + 1) 48 3 (by simp)) (by have := HB.out.size; omega), (fun x h => by cases h), (fun x h => by cases h)⟩, rfl, (fun x h => by cases h), HB.out.trans (hb2.mono HB.out.size)⟩, Lib.hid fun j hj => by omega⟩
  case round =>
    obtain ⟨i, ko, kc, fo, fc, hi, rfl, rfl, rfl, hbk, hle⟩ := hrel
    have HK := Lib.hid hbk
    clear hbk
    by_cases hlt : i < n
    · have hii : (i : Int) < n := by omega
      obtain ⟨lb, lo, ha, hE⟩ := HL.out.get HK.out.below hlt
      subst ha
      obtain ⟨x, hx⟩ : ∃ x, x = f i := ⟨_, rfl⟩
      have HX := Lib.hid hx
      rw [← hx] at hE
      have HE := Lib.hid hE
      have cell := hE.cell
      clear hE hx
      by_cases hbig : 1000 < x.b.length
      · have hbig' : (1000 : Int) < x.b.length := by omega
        go_wp2
        go_ret
        exact ⟨rfl, HK.out.below⟩
      · have hbig' : ¬ (1000 : Int) < x.b.length := by omega
        go_wp2_with (at_builtin; refine wpList_append_x at35 rfl (.tmp 42) (.tmp 44) rfl w.heap.size (.slice ko i kc) _ i 1 (kv (List.replicate i 1)) [.int .i64 1] rfl rfl (ownsRow_below HK.out.k ((Below.refl _ _).alloc (Nat.le_refl _) _)) (cells_oneB _ _ rfl 36 (.int .i64 1)) rfl (by intro u hu; rw [List.mem_singleton] at hu; subst hu; rfl) (by have := HK.out.below.size; simp; omega) (by omega) (by omega) ?c2)
        case c2 =>
        intro ko2 kc2 w2 hA2
        have HK2 := Lib.hid (HK.out.addK hA2.alloc)
        have hbl : Below wr.heap.size wr w2 → True := fun _ => trivial
        obtain ⟨_, _, ha2, hE2⟩ := HL.out.get HK2.out.below hlt
        simp only [Option.some.injEq, Addr.mk.injEq, and_true] at ha2
        obtain ⟨rfl, rfl⟩ := ha2
        rw [← HX.out] at hE2
        have cell2 := hE2.cell
        clear hA2 hE2 hbl
        go_wp2_with (at_builtin; refine wpList_append_x at37 rfl (.tmp 46) (.tmp 54) rfl w.heap.size (.slice fo i fc) _ i 1 (fcells (lN 1 f i)) (Fe.cells ⟨⟨1, x.b.length, []⟩, none, 0⟩) rfl rfl (ownsRow_below HK2.out.fo_ ((Below.refl _ _).alloc (Nat.le_refl _) _)) (cells_feB _ _ rfl 48 ⟨⟨1, x.b.length, []⟩, none, 0⟩) rfl (fe_one _) (by have := HK2.out.below.size; simp; omega) (by omega) (by omega) ?c3)
        case c3 =>
        intro fo3 fc3 w3 hA3
        have HK3 := Lib.hid (HK2.out.addF (Sl.none_ _) (fun hne => absurd rfl hne) hA3.alloc)
        clear hA3 cell2 cell
        go_wp2
        go_roundw
        case rel => exact ⟨i + 1, ko2, kc2, fo3, fc3, by omega, by go_num, rfl, rfl, by have := HK3.out; rw [HX.out] at this; rw [lN_succ, List.replicate_succ']; exact this, Lib.hid fun j hj => by
          by_cases e : j = i
          · subst e; rw [← HX.out]; omega
          · exact hle.out j (by omega)⟩
        case measure => simp [intOf]; omega
    · have hin : i = n := by omega
      subst hin
      have hii : ¬ (i : Int) < i := by omega
      clear hlt
      go_wp2_with fail
      have HLE : Hid (∀ j, j < i → (f j).b.length ≤ 1000) := hle
      clear hle hii
      go_loopw [7, 8, 11] (fun v7 v8 vi wr2 => ∃ (j : Nat) (ko2 : Option Addr) (kc2 : Nat) (fo2 : Option Addr) (fc2 : Nat), j ≤ i ∧ vi = .int .i64 j ∧ v7 = .slice ko2 (i + j) kc2 ∧ v8 = .slice fo2 (i + j) fc2 ∧ Bk w ko2 kc2 fo2 fc2 (i + j) (i + j) (List.replicate i 1 ++ List.replicate j 2) (lN 1 f i ++ lB f j) wr2) (fun _ _ vi _ => i - (intOf vi).toNat)
      case atStart => exact ⟨0, ko, kc, fo, fc, Nat.zero_le _, rfl, rfl, rfl, by simpa [lB] using HK.out⟩
      case round =>
        clear HK
        obtain ⟨j, ko2, kc2, fo2, fc2, hj, rfl, rfl, rfl, hbk⟩ := hrel
        have HK := Lib.hid hbk
        clear hbk
        by_cases hlt : j < i
        · have hii : (j : Int) < i := by omega
          obtain ⟨x, hx⟩ : ∃ x, x = f j := ⟨_, rfl⟩
          have HX := Lib.hid hx
          have HAR : Hid (x.b ≠ [] → ∀ ad, x.ao = some ad → ad.block < w.heap.size) := Lib.hid fun hne ad had => by
            obtain ⟨_, _, _, hE⟩ := HL.out.get (Below.refl _ _) hlt
            rw [← hx] at hE
            exact hE.sl.block_lt hne ad had
          clear hx
          go_wp2_with (at_builtin; refine wpList_append_x at35 rfl (.tmp 62) (.tmp 63) rfl w.heap.size (.slice ko2 (i + j) kc2) _ (i + j) 1 (kv (List.replicate i 1 ++ List.replicate j 2)) [.int .i64 2] rfl rfl (ownsRow_below HK.out.k ((Below.refl _ _).alloc (Nat.le_refl _) _)) (cells_oneB _ _ rfl 36 (.int .i64 2)) rfl (by intro u hu; rw [List.mem_singleton] at hu; subst hu; rfl) (by have := HK.out.below.size; simp; omega) (by omega) (by omega) ?c2)
          case c2 =>
          intro ko3 kc3 w2 hA2
          have HK2 := Lib.hid (HK.out.addK hA2.alloc)
          obtain ⟨lb, lo, ha, hE⟩ := HL.out.get HK2.out.below hlt
          subst ha
          rw [← HX.out] at hE
          have cell2 := hE.cell
          have HSX := Lib.hid hE.sl
          clear hA2 hE
          go_wp2_with (at_builtin; refine wpList_append_x at37 rfl (.tmp 65) (.tmp 71) rfl w.heap.size (.slice fo2 (i + j) fc2) _ (i + j) 1 (fcells (lN 1 f i ++ lB f j)) (Fe.cells ⟨⟨2, 0, x.b⟩, x.ao, x.c⟩) rfl rfl (ownsRow_below HK2.out.fo_ ((Below.refl _ _).alloc (Nat.le_refl _) _)) (cells_feB _ _ rfl 48 ⟨⟨2, 0, x.b⟩, x.ao, x.c⟩) rfl (fe_one _) (by have := HK2.out.below.size; simp; omega) (by omega) (by omega) ?c3)
          case c3 =>
          intro fo3 fc3 w3 hA3
          have HK3 := Lib.hid (HK2.out.addF (x := ⟨⟨2, 0, x.b⟩, x.ao, x.c⟩) HSX.out HAR.out hA3.alloc)
          clear hA3 cell2
          go_wp2
          go_roundw
          case rel => exact ⟨j + 1, ko3, kc3, fo3, fc3, by omega, by go_num, rfl, rfl, by have := HK3.out; rw [HX.out] at this; rw [lB_succ, List.replicate_succ', ← List.append_assoc, ← List.append_assoc]; exact this⟩
          case measure => simp [intOf]; omega
        · have hji : j = i := by omega
          subst hji
          clear hlt hj
          have HBL : Hid (∀ b ∈ bls f j, b.length ≤ 1000) := Lib.hid (bls_le HLE.out)
          have HWR : Hid (wrt ((lN 1 f j ++ lB f j).map (·.f)) = hdr (bls f j) 4 ++ (bls f j).flatten) := Lib.hid (by
            rw [List.map_append, lN_map, lB_map, wrt_back WD.out])
          obtain ⟨BW, hBW⟩ : ∃ BW, BW = hdr (bls f j) 4 ++ (bls f j).flatten := ⟨_, rfl⟩
          have hbwl : BW.length ≤ 30000 := by
            rw [hBW, List.length_append, hdr_len, bls_len]
            have := flat_le _ HBL.out
            rw [bls_len] at this
            omega
          have HBB : Hid (Bs BW) := Lib.hid (by rw [hBW]; exact (hdr_bs _ _).app (bls_bs HL.out))
          obtain ⟨xs, hxs⟩ : ∃ xs, xs = BW ++ rest := ⟨_, rfl⟩
          obtain ⟨ks, hks⟩ : ∃ ks : List Int, ks = List.replicate j 1 ++ List.replicate j 2 ++ [3] := ⟨_, rfl⟩
          have hkl : ks.length = j + j + 1 := by rw [hks]; simp; omega
          have hrun := run_back WD.out (bls f j) HBL.out rest xs (by rw [hxs, hBW, List.append_assoc]) ks (by rw [hks, bls_len, List.append_assoc])
          obtain ⟨fds, hfds⟩ : ∃ fds, fds = (bls f j).map (fN 1) ++ (bls f j).map fB ++ [⟨3, 0, rest⟩] := ⟨_, rfl⟩
          rw [← hfds] at hrun
          have hfl : fds.length = j + j + 1 := by rw [hfds]; simp [bls_len]; omega
          have hxl : BW.length + rest.length = xs.length := by rw [hxs, List.length_append]
          rw [← hBW] at HWR
          have HRUN := Lib.hid hrun
          have HFD := Lib.hid hfds
          have HFL := Lib.hid hfl
          have HKL := Lib.hid hkl
          have HXL := Lib.hid hxl
          have HXS := Lib.hid hxs
          have HKS := Lib.hid hks
          have HRB : Hid (Bs rest) := Lib.hid HS.out.bs
          clear hrun hfds hfl hkl hxl hxs hks hBW
          go_wp2_with (at_builtin; refine wpList_append_x at35 rfl (.tmp 73) (.tmp 74) rfl w.heap.size (.slice ko2 (j + j) kc2) _ (j + j) 1 (kv (List.replicate j 1 ++ List.replicate j 2)) [.int .i64 3] rfl rfl (ownsRow_below HK.out.k ((Below.refl _ _).alloc (Nat.le_refl _) _)) (cells_oneB _ _ rfl 36 (.int .i64 3)) rfl (by intro u hu; rw [List.mem_singleton] at hu; subst hu; rfl) (by have := HK.out.below.size; simp; omega) (by omega) (by omega) ?c2)
          case c2 =>
          intro ko3 kc3 w2 hA2
          have HK2 := Lib.hid (HK.out.addK hA2.alloc)
          have K19 := write_any fo2 fc2 (lN 1 f j ++ lB f j) w2 HK2.out.fs (by rw [HK2.out.hl]; omega) BW HWR.out (by omega)
          rw [HK2.out.hl] at K19
          have K19 := Lib.hid K19
          clear hA2
          go_wp2_with fail
          (with_reducible refine K19.out.mono ?_)
          rintro e w3 ⟨bo, bc, rfl, hown, hb3⟩
          have HB3 := Lib.hid (HK2.out.below.trans (hb3.mono HK2.out.below.size))
          have HO3 := Lib.hid hown
          have HB23 := Lib.hid hb3
          clear hown hb3 K19
          go_wp2_with (at_builtin; refine wpList_append_x at22 rfl (.tmp 77) (.tmp 78) rfl w2.heap.size (.slice bo BW.length bc) (.slice ra rest.length rc) BW.length rest.length (u8s BW) (u8s rest) rfl rfl HO3.out (HS.out.below HB3.out).cells (by rw [u8s_len, Nat.mul_one]) (u8s_one _) HB23.out.size (by omega) (by omega) ?c3)
          case c3 =>
          intro xo xc w4 hA4
          have hO4 := hA4.own
          rw [u8s_app, ← HXS.out, HXL.out] at hO4
          have hb24 : Below w2.heap.size w2 w4 := HB23.out.trans (hA4.below HO3.out HB23.out.size)
          have HB4 := Lib.hid (HK2.out.below.trans (hb24.mono HK2.out.below.size))
          have hks4 : KSrc w4 ko3 ks := by rw [HKS.out]; exact HK2.out.ks_.below hb24
          have HX4 := Lib.hid (own_sl hO4 (by rw [HXS.out]; exact HBB.out.app HRB.out))
          have K16 := (show Calls Try.prog 16 #[.slice xo xs.length xc, .int .i64 0, .slice ko3 ks.length kc3] w4 _ from rd_post (read_any xo xc xs 0 ko3 kc3 ks w4 HX4.out hks4 (Nat.zero_le _) (by have := HXL.out; omega) (by have := HKL.out; omega) _ HRUN.out))
          rw [HKL.out, HFL.out] at K16
          obtain ⟨N, hN⟩ : ∃ N, N = j + j + 1 := ⟨_, rfl⟩
          rw [← hN] at K16 ⊢
          have hNI : (N : Int) = 2 * (j : Int) + 1 := by omega
          have HNN : Hid (N = 2 * j + 1) := Lib.hid (by omega)
          have K16 := Lib.hid K16
          rw [HXL.out]
          clear hA4 hO4 hN hb24 hks4
          go_wp2_with fail
          (with_reducible refine K16.out.mono ?_)
          rintro e w5 ⟨lo, lc, l, hl, hln, rfl, hF, hb5⟩
          have HB5 := Lib.hid (HB4.out.trans (hb5.mono HB4.out.size))
          have HF := Lib.hid hF
          have HTH := Lib.hid (three l f 1 j rest (by rw [hl, HFD.out]))
          clear hl hln hF hb5 hbwl
          go_wp2_with fail
          clear hNI
          go_loopg [16] j (fun gh vi wr => ∃ (i q : Nat), i ≤ j ∧ j - i ≤ gh ∧ vi = .int .i64 i ∧ wr = w5.drewN q)
          case atStart => exact ⟨0, 0, Nat.zero_le _, by omega, rfl, rfl⟩
          case round =>
            obtain ⟨i, q, hi2, hgh, rfl, hwr⟩ := hrel
            have HQ := Lib.hid hwr
            have HFr : Hid (Fs wr lo l) := Lib.hid (by rw [hwr]; exact HF.out.drewN q)
            have HBr : Hid (Below w.heap.size w wr) := Lib.hid (by rw [hwr]; exact below_drewN HB5.out q)
            clear hwr
            by_cases hlt : i < j
            · have hii : (i : Int) < j := by omega
              obtain ⟨x, hx, hxf⟩ := HTH.out.1 i hlt
              obtain ⟨y, hy, hyf⟩ := HTH.out.2.1 i hlt
              obtain ⟨g, rfl, hX⟩ := HFr.out.get hx
              obtain ⟨g2, hg2, hY⟩ := HFr.out.get hy
              simp only [Option.some.injEq, Addr.mk.injEq, and_true] at hg2
              subst hg2
              obtain ⟨lb, lof, ha, hE⟩ := HL.out.get HBr.out hlt
              subst ha
              obtain ⟨el, hel⟩ : ∃ el, el = f i := ⟨_, rfl⟩
              rw [← hel] at hE hxf hyf
              have c1 := hX.c1
              have c2 := hY.c2
              have sy := hY.sl
              rw [hxf] at c1
              rw [hyf] at c2 sy
              simp only [fN, fB] at c1 c2 sy
              have ce := hE.cell
              have SY := Lib.hid sy
              have SE := Lib.hid hE.sl
              have KS := Lib.hid fun (m : Nat) => same_eq y.ao el.ao y.c el.c el.b (wr.drewN m) (SY.out.drewN m) (SE.out.drewN m)
              have hw : IntKind.i64.wrap ((j : Int) + i) = (j : Int) + i := by rw [IntKind.wrap_i64]; omega
              have hto : ((j : Int) + i).toNat = j + i := by omega
              have hNi : (i : Int) < N := by have := HNN.out; omega
              have hNj : (j : Int) + i < N := by have := HNN.out; omega
              have hpos : (0 : Int) ≤ (j : Int) + i := by omega
              clear hX hY hE hx hxf hy hyf hel sy
              go_wp2_with fail
              go_quiet ((go_at_call 12; exact Calls.quiet_of (KS.out _)))
              clear hw
              go_wp2
              go_roundg (j - (i + 1))
              case measure => omega
              case rel => exact ⟨i + 1, _, by omega, Nat.le_refl _, by go_num, (by rw [HQ.out]; exact World.drewN_drewN _ _ _)⟩
            · have hij : i = j := by omega
              obtain ⟨z, hz, hzf⟩ := HTH.out.2.2
              obtain ⟨g, rfl, hZ⟩ := HFr.out.get hz
              have c2 := hZ.c2
              have sz := hZ.sl
              rw [hzf] at c2 sz
              simp only at c2 sz
              have KS := Lib.hid (same_eq z.ao ra z.c rc rest wr sz (HS.out.below HBr.out))
              have hto : ((2 : Int) * j).toNat = 2 * j := by omega
              have hNj : (2 : Int) * j < N := by have := HNN.out; omega
              have hni : ¬ (i : Int) < j := by omega
              clear hZ hz hzf sz
              go_wp2_with (go_at_call 12; (with_reducible refine KS.out.mono ?_); rintro e w8 ⟨rfl, hd⟩; have HB8 := Lib.hid (hd.below HBr.out); clear hd)
              go_ret
              exact ⟨rfl, HB8.out⟩

theorem walk (a : Option Addr) (ac n : Nat) (f : Nat → El) (lg : Bool) (ra : Option Addr) (rc : Nat) (rest : List Nat) (w : World) (hL : LstF w a n f) (hS : Sl w ra rc rest) (hM : MaxL w) :
    Calls Try.prog 5 #[.slice a n ac, .bool lg, .slice ra rest.length rc] w fun e w' => e = .returned (.bool true) ∧ Below w.heap.size w w' := by
  by_cases h : 20 < n ∨ 1000 < rest.length
  · exact walk_long a ac n lg ra rc rest.length h w hM
  · cases lg with
    | false => exact walk_false a ac n f ra rc rest (by omega) (by omega) w hL hS hM
    | true => exact walk_true a ac n f ra rc rest (by omega) (by omega) w hL hS hM

set_option maxRecDepth 100000 in
theorem lifted (os : Os) (started : os.Started) (H : Type) (enc : TypeId × Value → H) :
    ReturnsInHanded {} Try.checked os 5 .any (Rows.cursorBackSpec.pre6 enc Try.prog Try.f5 Rows.cursorBackRow.domain false) (Rows.cursorBackSpec.post enc Try.prog Try.f5 false true false false) := by
  refine returnsInHanded_of_change_shaped (C := Try.checked) own started (by kernel_rfl) Try.func5
    (ChangeSpec.witness6 (enc := enc) (C := Try.checked) false ⟨#[], #[.slice none 0 0, .bool false, .slice none 0 0], []⟩ 8 (by kernel_rfl) (by kernel_rfl) (by kernel_rfl) (by kernel_rfl)) ?_
  intro W base args ds gs before hval0 hW hcnd hsz hsh _
  have hM : MaxL W := lm185.s1_3 W hsh
  have hval : ∀ (j : Nat) t v, Try.f5.params[j]? = some t → args[j]? = some v → Value.okWide Try.prog W .any base t v := hval0
  have hW' := hW
  obtain ⟨p, q, hA0, hV, rfl, hfz, hnd⟩ := hW
  have hA : DataW.TrodAll enc Try.prog W 0 (fun _ => true) true Try.f5.params.toList args.toList ds p := hA0
  rw [Try.params5] at hA hval
  obtain ⟨v0, vs0, d0, ds0, p0, q0, hargs, rfl, rfl, h0, r0⟩ := trodAll_cons hA
  obtain ⟨v1, vs1, d1, ds1, p1, q1, rfl, rfl, rfl, h1, r1⟩ := trodAll_cons r0
  obtain ⟨v2, vs2, d2, ds2, p2, q2, rfl, rfl, rfl, h2, r2⟩ := trodAll_cons r1
  obtain ⟨rfl, rfl, rfl⟩ := trodAll_nil r2
  obtain rfl : args = #[v0, v1, v2] := by cases args; simp_all
  obtain ⟨rfl, rfl⟩ := trodVars_none hV
  obtain ⟨a0, len0, cap0, rfl⟩ := okWide_slice Try.underlying46 (hval 0 46 v0 rfl rfl)
  have k0 := h0
  have lt0 : ∀ x ∈ p0, x.block < W.heap.size := by obtain ⟨m, hm⟩ := k0; exact DataW.trod_lt m _ _ _ hm
  obtain ⟨f0, hs0, hlm0⟩ : ∃ f : Nat → El, LstF W a0 len0 f ∧ len0 ≤ maxLen := by
    obtain ⟨fuel, hf⟩ := h0
    exact lst_open (by simpa [Value.cells] using hf)
  obtain ⟨b1, rfl, rfl, rfl⟩ := open_bool Try.underlying4 (hval 1 4 v1 rfl rfl) h1
  obtain ⟨a2, len2, cap2, rfl⟩ := okWide_slice Try.underlying22 (hval 2 22 v2 rfl rfl)
  have k2 := h2
  have lt2 : ∀ x ∈ p2, x.block < W.heap.size := by obtain ⟨m, hm⟩ := k2; exact DataW.trod_lt m _ _ _ hm
  obtain ⟨xs2, rfl, hs2⟩ : ∃ xs : List Nat, xs.length = len2 ∧ Sl W a2 cap2 xs := by
    obtain ⟨fuel, hf⟩ := h2
    exact sl_open (by simpa [Value.cells] using hf)
  clear hA0 hval0
  refine (walk a0 cap0 len0 f0 b1 a2 cap2 xs2 W hs0 hs2 hM).mono fun e W' ⟨he, bel⟩ => ?_
  subst he
  exact ⟨_, rfl, _, _, _, [], _, [], hW', trodAll_mk1 (shut_bool Try.underlying4 _), (trodAll_cons_mk (Below.trod laidOut (by kernel_rfl) (of_decide_eq_true (by kernel_rfl)) k0 bel lt0) (trodAll_cons_mk (shut_bool Try.underlying4 b1) (trodAll_cons_mk (Below.trod laidOut (by kernel_rfl) (of_decide_eq_true (by kernel_rfl)) k2 bel lt2) trodAll_mk0))), rfl, bel.frame _, fun h => by cases h⟩

theorem over : Rows.cursorBackRow.holds Try.pinned (OpenSpec.ofChange Rows.cursorBackSpec) :=
  OpenClaim.holds_of_wide 5 Try.f5 rfl rfl rfl rfl rfl rfl rfl ⟨rfl, rfl, rfl, rfl, rfl⟩ rfl rfl rfl rfl rfl (by kernel_rfl) Try.func5 (by kernel_rfl)
    (of_decide_eq_true (by kernel_rfl)) (by unfold Func.isWrapper; first | (rw [if_pos (by decide +kernel)]; kernel_rfl) | (rw [if_neg (by decide +kernel)]; exact ⟨rfl, rfl⟩))
    (fun os started H enc _ => lifted os started H enc)

theorem proved : Rows.CursorBackSaid := over
#print axioms proved
end Go.Proofs.Ytflabomkgkojlaa.cursorBack
