/-
  The reference's Read.
-/
import Derived.Test.YtflabomkgkojlaaM
namespace Go.Proofs.Ytflabomkgkojlaa
open Go.RowKit

theorem rread_out (ao : Option Addr) (c L : Nat) (at_ : Int) (ka : Option Addr) (kn kc : Nat) (h : at_ < 0 ∨ (L : Int) < at_) (w : World) :
    Calls Try.prog 17 #[.slice ao L c, .int .i64 at_, .slice ka kn kc] w fun e w' => e = .returned (.tuple #[.slice none 0 0, .int .i64 0, .bool false]) ∧ Below w.heap.size w w' := by
  by_cases h1 : at_ < 0
  · go_enter Try.func17, Try.ntmps17
    go_wp2
    refine bodyPost_ret (v := .tuple #[.slice none 0 0, .int .i64 0, .bool false]) (by simp [results, Try.results17, go_sem]) rfl ⟨rfl, (Below.refl _ _).alloc (Nat.le_refl _) _⟩
  · have h2 : (L : Int) < at_ := by omega
    go_enter Try.func17, Try.ntmps17
    go_wp2
    refine bodyPost_ret (v := .tuple #[.slice none 0 0, .int .i64 0, .bool false]) (by simp [results, Try.results17, go_sem]) rfl ⟨rfl, (Below.refl _ _).alloc (Nat.le_refl _) _⟩

theorem cells_feB (w : World) (B : Nat) (hB : w.heap.size = B) (e : TypeId) (x : Fe) : CellsAt (w.alloc (.cells #[.int .i64 x.f.k, .int .i64 (x.f.n : Nat), .slice x.ao x.f.b.length x.c] e)) (.slice (some ⟨B, 0, none⟩) 1 1) 1 x.cells := by
  subst hB; exact cells_fe w e x

theorem cutA_block {ao : Option Addr} {c a : Nat} {ad : Addr} (h : cutA ao c a = some ad) : ∃ ad0, ao = some ad0 ∧ ad.block = ad0.block := by
  unfold cutA at h
  split at h
  · exact ⟨ad, h, rfl⟩
  · cases ao with
    | none => simp at h
    | some x =>
      simp only [Option.map_some, Option.some.injEq] at h
      refine ⟨x, rfl, ?_⟩
      rw [← h]
      unfold Addr.add
      split <;> rfl

theorem stp_0 (xs : List Nat) (back at_ : Nat) (l : List Fd) : stp xs back 0 at_ l = if at_ + 2 ≤ xs.length then some (⟨0, num (win xs at_ 2), []⟩, at_ + 2) else none := by
  simp [stp, szf, fld, isN]
theorem stp_1 (xs : List Nat) (back at_ : Nat) (l : List Fd) : stp xs back 1 at_ l = if at_ + 4 ≤ xs.length then some (⟨1, num (win xs at_ 4), []⟩, at_ + 4) else none := by
  simp [stp, szf, fld, isN]
theorem stp_3 (xs : List Nat) (back at_ : Nat) (l : List Fd) (h : at_ ≤ xs.length) : stp xs back 3 at_ l = some (⟨3, 0, win xs at_ (xs.length - at_)⟩, xs.length) := by
  have e : ((xs.length : Int) - at_).toNat = xs.length - at_ := by omega
  have e2 : at_ + (xs.length - at_) = xs.length := by omega
  simp [stp, szf, fld, isN, e, e2]
theorem stp_no (xs : List Nat) (back : Nat) (k : Int) (at_ : Nat) (l : List Fd) (h0 : k ≠ 0) (h1 : k ≠ 1) (h2 : k ≠ 2) (h3 : k ≠ 3) : stp xs back k at_ l = none := by
  simp [stp, szf, h0, h1, h2, h3]
theorem stp_2out (xs : List Nat) (back at_ : Nat) (l : List Fd) (h : l.length < back) : stp xs back 2 at_ l = none := by
  simp [stp, szf, h]
theorem stp_2 (xs : List Nat) (back at_ : Nat) (l : List Fd) (f : Fd) (h : ¬ l.length < back) (hf : l[l.length - back]? = some f) :
    stp xs back 2 at_ l = if isN f.k = true ∧ at_ + f.n ≤ xs.length then some (⟨2, 0, win xs at_ f.n⟩, at_ + f.n) else none := by
  have e : szf 2 ((xs.length : Int) - at_) l back = ((f.n : Int), isN f.k) := by
    unfold szf
    rw [if_neg (by omega), if_neg (by omega), if_pos rfl, if_neg h, hf]
  unfold stp
  rw [e]
  simp [fld, isN]

set_option maxHeartbeats 6400000 in
set_option maxRecDepth 100000 in
theorem rread_any (ao : Option Addr) (c : Nat) (xs : List Nat) (at0 : Nat) (ka : Option Addr) (kc : Nat) (ks : List Int) (w : World) (h : Sl w ao c xs) (hk : KSrc w ka ks) (hlt0 : ∀ ad, ao = some ad → xs ≠ [] → ad.block < w.heap.size) (hat : at0 ≤ xs.length) (hm : xs.length ≤ 100000000) (hkm : ks.length ≤ 1000) (R : Option (List Fd × Nat)) (hR : run xs (cnt ks) ks at0 [] = R) :
    Calls Try.prog 17 #[.slice ao xs.length c, .int .i64 at0, .slice ka ks.length kc] w (ReadPost R w) := by
  have HS := Lib.hid h
  have HK := Lib.hid hk
  have hcl := cnt_le ks
  obtain ⟨back, hback⟩ : ∃ b, b = cnt ks := ⟨_, rfl⟩
  have K0 := Lib.hid fun (W : World) (hW : Below w.heap.size w W) => all_any ka kc ks W (hk.below hW) (by omega)
  rw [← hback] at hR K0 hcl
  have HBK := Lib.hid hback
  have HR := Lib.hid hR
  have HLT := Lib.hid hlt0
  have hatn : ¬ ((xs.length : Int) < at0) := by omega
  clear h hk hR hback hlt0
  go_enter Try.func17, Try.ntmps17
  go_wp2
  go_loopw [1, 9, 10] (fun va vl vi wr => ∃ (i at_ : Nat) (l : List Fe) (lo : Option Addr) (lc : Nat), i ≤ ks.length ∧ vi = .int .i64 i ∧ va = .int .i64 at_ ∧ at_ ≤ xs.length ∧ vl = .slice lo i lc ∧ Hid (l.length = i) ∧ FOwn wr w.heap.size 59 (.slice lo i lc) l ∧ Below w.heap.size w wr ∧ Hid (run xs back (ks.drop i) at_ (l.map (·.f)) = R) ∧ Hid (∀ x ∈ l, 0 ≤ x.f.k)) (fun _ _ vi _ => ks.length - (intOf vi).toNat)
  case atStart => exact ⟨0, at0, [], _, 0, Nat.zero_le _, rfl, rfl, hat, rfl, rfl, ⟨own_empty w 59 3, (fun x h => by cases h), (fun x h => by cases h)⟩, (Below.refl _ _).alloc (Nat.le_refl _) _, HR, Lib.hid fun x h => by cases h⟩
  case round =>
    obtain ⟨i, at_, l, lo, lc, hi, rfl, rfl, hat_, rfl, hlen, hown, hbel, hrun, hkinds⟩ := hrel
    have HO := Lib.hid hown
    have HB := Lib.hid hbel
    clear hown hbel
    by_cases hlt : i < ks.length
    · have hii : (i : Int) < ks.length := by omega
      have HKr := Lib.hid (HK.out.below HB.out)
      rcases HKr.out with h0 | ⟨kb, ko, hka, hkc⟩
      · rw [h0] at hlt; simp at hlt
      subst hka
      have hkcell := hkc i hlt
      have hkb : kb < wr.heap.size := World.block_lt_of_cell? wr ⟨kb, ko + i, none⟩ hkcell
      have HSr := Lib.hid (HS.out.below HB.out)
      have HRD := Lib.hid (run_drop (xs := xs) (back := back) (at_ := at_) (l := l.map (·.f)) hlt)
      have hd : Hid (∀ W, Below wr.heap.size wr W → Below w.heap.size w W) := Lib.hid fun W hW => HB.out.trans (hW.mono HB.out.size)
      have HO1 : Hid (∀ W, Below wr.heap.size wr W → W.ownsRow w.heap.size 59 3 (.slice lo i lc) i (fcells l)) := Lib.hid fun W hW => by
        have := (HO.out.below hW).own
        rw [hlen.out] at this
        exact this
      have hb1 : Hid (ks.getD i 0 = 2 → 1 ≤ back) := Lib.hid fun h2 => by
        rw [HBK.out]
        have hmem : ks.getD i 0 ∈ ks.filter fun k => k == 2 := by
          rw [List.mem_filter]
          exact ⟨by rw [List.getD, List.getElem?_eq_getElem hlt]; exact List.getElem_mem _, by show (ks.getD i 0 == 2) = true; rw [h2]; rfl⟩
        exact List.length_pos_of_mem hmem
      obtain ⟨k, hk⟩ : ∃ k, k = ks.getD i 0 := ⟨_, rfl⟩
      rw [← hk] at hkcell HRD hb1
      clear hk hkc
      by_cases hk0 : k = 0
      · subst hk0
        rw [stp_0] at HRD
        by_cases hfit : at_ + 2 ≤ xs.length
        · have HRN : Hid (run xs back (ks.drop (i + 1)) (at_ + 2) (l.map (·.f) ++ [⟨0, num (win xs at_ 2), []⟩]) = R) := Lib.hid (by
            rw [← hrun.out, HRD.out, if_pos hfit])
          have K1 : ∀ (W : World), Below wr.heap.size wr W → Calls Try.prog 9 #[.slice ao xs.length c, .int .i64 at_, .int .i64 2] W fun e w' => e = .returned (.tuple #[.int .i64 (num (win xs at_ 2) : Nat), .bool true]) ∧ W = w' := fun W hW => rnum_ok ao c xs at_ 2 W (HSr.out.below hW) (by omega) hfit (by omega)
          obtain ⟨z, hz⟩ : ∃ z, z = num (win xs at_ 2) := ⟨_, rfl⟩
          rw [← hz] at K1 HRN
          have K1 := Lib.hid K1
          clear hz hrun HRD
          go_wp2_with (first
            | (go_at_call 9; (with_reducible refine (K1.out _ ((Below.refl _ _).alloc (Nat.le_refl _) _)).mono ?_); rintro e w' ⟨rfl, rfl⟩)
            | (at_builtin; refine wpList_append_x at40 rfl (.tmp 107) (.tmp 109) rfl w.heap.size (.slice lo i lc) _ i 1 (fcells l) (Fe.cells ⟨⟨0, z, []⟩, none, 0⟩) rfl rfl (HO1.out _ (((Below.refl _ _).alloc (Nat.le_refl _) _).alloc (by simp) _)) (cells_feB _ _ (by simp) 59 ⟨⟨0, z, []⟩, none, 0⟩) rfl (fe_one _) (by have := HB.out.size; simp; omega) (by omega) (by omega) ?c2))
          case c2 =>
          intro ao5 c5 w5 hA5
          have hA6 := hA5.alloc
          have hO5 : FOwn w5 w.heap.size 59 (.slice ao5 (i + 1) c5) (l ++ [⟨⟨0, z, []⟩, none, 0⟩]) := (HO.out.below ((Below.refl _ _).alloc (Nat.le_refl _) _)).app (Sl.none_ _) (fun hne => absurd rfl hne) (by rw [hlen.out]; exact hA6)
          have HO5 := Lib.hid hO5
          have HB5 := Lib.hid ((hd.out _ ((Below.refl _ _).alloc (Nat.le_refl _) _)).trans (hA6.below (HO1.out _ ((Below.refl _ _).alloc (Nat.le_refl _) _)) (by have := HB.out.size; simp; omega)))
          clear hA5 hA6 hO5
          go_wp2
          go_roundw
          case rel => exact ⟨i + 1, at_ + 2, l ++ [⟨⟨0, z, []⟩, none, 0⟩], ao5, c5, by omega, by go_num, by go_num, hfit, rfl, Lib.hid (by rw [List.length_append, hlen.out]; rfl), HO5.out, HB5.out, Lib.hid (by rw [List.map_append]; exact HRN.out), Lib.hid fun x hx => by
            rcases List.mem_append.1 hx with hx | hx
            · exact hkinds.out x hx
            · rw [List.mem_singleton] at hx; subst hx; show (0 : Int) ≤ 0; omega⟩
          case measure => simp [intOf]; omega
        · have hres : R = none := by rw [← hrun.out, HRD.out, if_neg hfit]
          subst hres
          have K1 : ∀ (W : World), Calls Try.prog 9 #[.slice ao xs.length c, .int .i64 at_, .int .i64 2] W fun e w' => e = .returned (.tuple #[.int .i64 0, .bool false]) ∧ W = w' := fun W => rnum_no ao c xs.length at_ 2 W (by omega) (by omega) (by omega)
          have K1 := Lib.hid K1
          clear hrun HRD
          go_wp2_with (go_at_call 9; (with_reducible refine (K1.out _).mono ?_); rintro e w' ⟨rfl, rfl⟩)
          refine bodyPost_ret (v := .tuple #[.slice none 0 0, .int .i64 0, .bool false]) (by simp [results, Try.results17, go_sem]) rfl ⟨rfl, ?_⟩
          exact hd.out _ ((Below.refl _ _).alloc (Nat.le_refl _) _)
      by_cases hk1 : k = 1
      · subst hk1
        rw [stp_1] at HRD
        by_cases hfit : at_ + 4 ≤ xs.length
        · have HRN : Hid (run xs back (ks.drop (i + 1)) (at_ + 4) (l.map (·.f) ++ [⟨1, num (win xs at_ 4), []⟩]) = R) := Lib.hid (by
            rw [← hrun.out, HRD.out, if_pos hfit])
          have K1 : ∀ (W : World), Below wr.heap.size wr W → Calls Try.prog 9 #[.slice ao xs.length c, .int .i64 at_, .int .i64 4] W fun e w' => e = .returned (.tuple #[.int .i64 (num (win xs at_ 4) : Nat), .bool true]) ∧ W = w' := fun W hW => rnum_ok ao c xs at_ 4 W (HSr.out.below hW) (by omega) hfit (by omega)
          obtain ⟨z, hz⟩ : ∃ z, z = num (win xs at_ 4) := ⟨_, rfl⟩
          rw [← hz] at K1 HRN
          have K1 := Lib.hid K1
          clear hz hrun HRD
          go_wp2_with (first
            | (go_at_call 9; (with_reducible refine (K1.out _ ((Below.refl _ _).alloc (Nat.le_refl _) _)).mono ?_); rintro e w' ⟨rfl, rfl⟩)
            | (at_builtin; refine wpList_append_x at40 rfl (.tmp 107) (.tmp 109) rfl w.heap.size (.slice lo i lc) _ i 1 (fcells l) (Fe.cells ⟨⟨1, z, []⟩, none, 0⟩) rfl rfl (HO1.out _ (((Below.refl _ _).alloc (Nat.le_refl _) _).alloc (by simp) _)) (cells_feB _ _ (by simp) 59 ⟨⟨1, z, []⟩, none, 0⟩) rfl (fe_one _) (by have := HB.out.size; simp; omega) (by omega) (by omega) ?c2))
          case c2 =>
          intro ao5 c5 w5 hA5
          have hA6 := hA5.alloc
          have hO5 : FOwn w5 w.heap.size 59 (.slice ao5 (i + 1) c5) (l ++ [⟨⟨1, z, []⟩, none, 0⟩]) := (HO.out.below ((Below.refl _ _).alloc (Nat.le_refl _) _)).app (Sl.none_ _) (fun hne => absurd rfl hne) (by rw [hlen.out]; exact hA6)
          have HO5 := Lib.hid hO5
          have HB5 := Lib.hid ((hd.out _ ((Below.refl _ _).alloc (Nat.le_refl _) _)).trans (hA6.below (HO1.out _ ((Below.refl _ _).alloc (Nat.le_refl _) _)) (by have := HB.out.size; simp; omega)))
          clear hA5 hA6 hO5
          go_wp2
          go_roundw
          case rel => exact ⟨i + 1, at_ + 4, l ++ [⟨⟨1, z, []⟩, none, 0⟩], ao5, c5, by omega, by go_num, by go_num, hfit, rfl, Lib.hid (by rw [List.length_append, hlen.out]; rfl), HO5.out, HB5.out, Lib.hid (by rw [List.map_append]; exact HRN.out), Lib.hid fun x hx => by
            rcases List.mem_append.1 hx with hx | hx
            · exact hkinds.out x hx
            · rw [List.mem_singleton] at hx; subst hx; show (0 : Int) ≤ 1; omega⟩
          case measure => simp [intOf]; omega
        · have hres : R = none := by rw [← hrun.out, HRD.out, if_neg hfit]
          subst hres
          have K1 : ∀ (W : World), Calls Try.prog 9 #[.slice ao xs.length c, .int .i64 at_, .int .i64 4] W fun e w' => e = .returned (.tuple #[.int .i64 0, .bool false]) ∧ W = w' := fun W => rnum_no ao c xs.length at_ 4 W (by omega) (by omega) (by omega)
          have K1 := Lib.hid K1
          clear hrun HRD
          go_wp2_with (go_at_call 9; (with_reducible refine (K1.out _).mono ?_); rintro e w' ⟨rfl, rfl⟩)
          refine bodyPost_ret (v := .tuple #[.slice none 0 0, .int .i64 0, .bool false]) (by simp [results, Try.results17, go_sem]) rfl ⟨rfl, ?_⟩
          exact hd.out _ ((Below.refl _ _).alloc (Nat.le_refl _) _)
      by_cases hk3 : k = 3
      · subst hk3
        rw [stp_3 _ _ _ _ hat_] at HRD
        obtain ⟨ys, hys⟩ : ∃ ys, ys = win xs at_ (xs.length - at_) := ⟨_, rfl⟩
        have hyl : ys.length = xs.length - at_ := by rw [hys]; exact win_len (by omega)
        have HRN : Hid (run xs back (ks.drop (i + 1)) xs.length (l.map (·.f) ++ [⟨3, 0, ys⟩]) = R) := Lib.hid (by
          rw [← hrun.out, HRD.out, hys])
        have HC : Hid (∀ W, Below wr.heap.size wr W → Sl W (cutA ao c at_) (c - at_) ys) := Lib.hid fun W hW => by
          rw [hys]; exact (HSr.out.below hW).cut' at_ (xs.length - at_) (by omega)
        have hsl := slice_l ao xs.length c at_ hat_
        rw [← hyl] at hsl
        have HA : Hid (ys ≠ [] → ∀ ad, cutA ao c at_ = some ad → ad.block < w.heap.size) := Lib.hid fun hne ad had => by
          obtain ⟨ad0, h1, h2⟩ := cutA_block had
          rw [h2]
          exact HLT.out ad0 h1 (fun e => by rw [e] at hyl; simp at hyl; exact hne hyl)
        obtain ⟨A, hA⟩ : ∃ A, A = cutA ao c at_ := ⟨_, rfl⟩
        rw [← hA] at hsl HC HA
        clear hA hys hyl hrun HRD
        go_wp2_with (at_builtin; refine wpList_append_x at40 rfl (.tmp 107) (.tmp 109) rfl w.heap.size (.slice lo i lc) _ i 1 (fcells l) (Fe.cells ⟨⟨3, 0, ys⟩, A, c - at_⟩) rfl rfl (HO1.out _ (((Below.refl _ _).alloc (Nat.le_refl _) _).alloc (by simp) _)) (cells_feB _ _ (by simp) 59 ⟨⟨3, 0, ys⟩, A, c - at_⟩) rfl (fe_one _) (by have := HB.out.size; simp; omega) (by omega) (by omega) ?c2)
        case c2 =>
        intro ao5 c5 w5 hA5
        have hA6 := hA5.alloc
        have hO5 : FOwn w5 w.heap.size 59 (.slice ao5 (i + 1) c5) (l ++ [⟨⟨3, 0, ys⟩, A, c - at_⟩]) := (HO.out.below ((Below.refl _ _).alloc (Nat.le_refl _) _)).app (HC.out _ ((Below.refl _ _).alloc (Nat.le_refl _) _)) (fun hne ad had hc => by
          have h1 := HA.out hne ad had
          have h2 := (HO1.out _ (Below.refl _ _)).lt _ hc
          omega) (by rw [hlen.out]; exact hA6)
        have HO5 := Lib.hid hO5
        have HB5 := Lib.hid ((hd.out _ ((Below.refl _ _).alloc (Nat.le_refl _) _)).trans (hA6.below (HO1.out _ ((Below.refl _ _).alloc (Nat.le_refl _) _)) (by have := HB.out.size; simp; omega)))
        clear hA5 hA6 hO5 hsl
        go_wp2
        go_roundw
        case rel => exact ⟨i + 1, xs.length, l ++ [⟨⟨3, 0, ys⟩, A, c - at_⟩], ao5, c5, by omega, by go_num, by congr 1; omega, Nat.le_refl _, rfl, Lib.hid (by rw [List.length_append, hlen.out]; rfl), HO5.out, HB5.out, Lib.hid (by rw [List.map_append]; exact HRN.out), Lib.hid fun x hx => by
          rcases List.mem_append.1 hx with hx | hx
          · exact hkinds.out x hx
          · rw [List.mem_singleton] at hx; subst hx; show (0 : Int) ≤ 3; omega⟩
        case measure => simp [intOf]; omega
      by_cases hk2 : k = 2
      · subst hk2
        have hb1' := hb1.out rfl
        have K1 : ∀ (W : World), Below wr.heap.size wr W → Calls Try.prog 29 #[.slice (some ⟨kb, ko, none⟩) ks.length kc] W fun e w' => e = .returned (.int .i64 back) ∧ W = w' := fun W hW => K0.out W (hd.out W hW)
        have K1 := Lib.hid K1
        by_cases hib : i < back
        · have hres : R = none := by rw [← hrun.out, HRD.out, stp_2out _ _ _ _ (by rw [List.length_map, hlen.out]; exact hib)]
          subst hres
          have hib' : (i : Int) - back < 0 := by omega
          clear hrun HRD
          go_wp2_with (go_at_call 29; (with_reducible refine (K1.out _ ((Below.refl _ _).alloc (Nat.le_refl _) _)).mono ?_); rintro e w' ⟨rfl, rfl⟩)
          refine bodyPost_ret (v := .tuple #[.slice none 0 0, .int .i64 0, .bool false]) (by simp [results, Try.results17, go_sem]) rfl ⟨rfl, ?_⟩
          exact hd.out _ ((Below.refl _ _).alloc (Nat.le_refl _) _)
        · obtain ⟨j, hj⟩ : ∃ j, j + back = i := ⟨i - back, by omega⟩
          have hjl : j < l.length := by rw [hlen.out]; omega
          have hx : l[j]? = some l[j] := List.getElem?_eq_getElem hjl
          obtain ⟨x, hxe⟩ : ∃ x, x = l[j] := ⟨_, rfl⟩
          rw [← hxe] at hx
          have hFs : Fs wr lo l := by
            have := HO.out
            rw [← hlen.out] at this
            exact this.fs
          obtain ⟨g, hlo, hF⟩ := hFs.get hx
          subst hlo
          have c0 := hF.c0
          have c1 := hF.c1
          have hgb : g < wr.heap.size := World.block_lt_of_cell? wr _ c0
          have hk0 := hkinds.out x (List.mem_of_getElem? hx)
          have hxf : (l.map (·.f))[(l.map (·.f)).length - back]? = some x.f := by
            rw [List.length_map, hlen.out, show i - back = j from by omega, List.getElem?_map, hx]; rfl
          rw [stp_2 _ _ _ _ x.f (by rw [List.length_map, hlen.out]; exact hib) hxf] at HRD
          have hidx : (i : Int) - (back : Int) = (j : Int) := by omega
          have hji : (j : Int) < i := by omega
          obtain ⟨fk, hfk⟩ : ∃ fk, fk = x.f.k := ⟨_, rfl⟩
          obtain ⟨n, hn⟩ : ∃ n, n = x.f.n := ⟨_, rfl⟩
          rw [← hfk] at c0 hk0 HRD
          rw [← hn] at c1 HRD
          have HJ := Lib.hid hj
          clear hF hFs hx hxe hxf hjl hfk hn hj
          by_cases hfn : isN fk = true
          · have hf1 : ¬ (1 : Int) < fk := by rcases isN_yes hfn with rfl | rfl <;> omega
            by_cases hfit : at_ + n ≤ xs.length
            · have hfit' : ¬ ((xs.length : Int) - at_ < n) := by omega
              obtain ⟨ys, hys⟩ : ∃ ys, ys = win xs at_ n := ⟨_, rfl⟩
              have hyl : ys.length = n := by rw [hys]; exact win_len hfit
              have HRN : Hid (run xs back (ks.drop (i + 1)) (at_ + n) (l.map (·.f) ++ [⟨2, 0, ys⟩]) = R) := Lib.hid (by
                rw [← hrun.out, HRD.out, if_pos ⟨hfn, hfit⟩, hys])
              have HC : Hid (∀ W, Below wr.heap.size wr W → Sl W (cutA ao c at_) (c - at_) ys) := Lib.hid fun W hW => by
                rw [hys]; exact (HSr.out.below hW).cut' at_ n hfit
              have hsl := slice_lh ao xs.length c at_ (at_ + n) (by omega) (by have := HS.out.le; omega)
              rw [show at_ + n - at_ = ys.length from by omega, show ((at_ + n : Nat) : Int) = (at_ : Int) + n from by omega] at hsl
              have HA : Hid (ys ≠ [] → ∀ ad, cutA ao c at_ = some ad → ad.block < w.heap.size) := Lib.hid fun hne ad had => by
                obtain ⟨ad0, h1, h2⟩ := cutA_block had
                rw [h2]
                exact HLT.out ad0 h1 (fun e => by rw [e] at hfit; simp at hfit; apply hne; apply List.eq_nil_of_length_eq_zero; omega)
              obtain ⟨A, hA⟩ : ∃ A, A = cutA ao c at_ := ⟨_, rfl⟩
              rw [← hA] at hsl HC HA
              clear hA hys hyl hrun HRD hfn
              go_wp2_with (first
                | (go_at_call 29; (with_reducible refine (K1.out _ ((Below.refl _ _).alloc (Nat.le_refl _) _)).mono ?_); rintro e w' ⟨rfl, rfl⟩)
                | (at_builtin; refine wpList_append_x at40 rfl (.tmp 107) (.tmp 109) rfl w.heap.size (.slice (some ⟨g, 0, none⟩) i lc) _ i 1 (fcells l) (Fe.cells ⟨⟨2, 0, ys⟩, A, c - at_⟩) rfl rfl (HO1.out _ (((Below.refl _ _).alloc (Nat.le_refl _) _).alloc (by simp) _)) (cells_feB _ _ (by simp) 59 ⟨⟨2, 0, ys⟩, A, c - at_⟩) rfl (fe_one _) (by have := HB.out.size; simp; omega) (by omega) (by omega) ?c2))
              case c2 =>
              intro ao5 c5 w5 hA5
              have hA6 := hA5.alloc
              have hO5 : FOwn w5 w.heap.size 59 (.slice ao5 (i + 1) c5) (l ++ [⟨⟨2, 0, ys⟩, A, c - at_⟩]) := (HO.out.below ((Below.refl _ _).alloc (Nat.le_refl _) _)).app (HC.out _ ((Below.refl _ _).alloc (Nat.le_refl _) _)) (fun hne ad had hc => by
                have h1 := HA.out hne ad had
                have h2 := (HO1.out _ (Below.refl _ _)).lt _ hc
                omega) (by rw [hlen.out]; exact hA6)
              have HO5 := Lib.hid hO5
              have HB5 := Lib.hid ((hd.out _ ((Below.refl _ _).alloc (Nat.le_refl _) _)).trans (hA6.below (HO1.out _ ((Below.refl _ _).alloc (Nat.le_refl _) _)) (by have := HB.out.size; simp; omega)))
              clear hA5 hA6 hO5 hsl c0 c1 hidx
              go_wp2
              go_roundw
              case rel => exact ⟨i + 1, at_ + n, l ++ [⟨⟨2, 0, ys⟩, A, c - at_⟩], ao5, c5, by omega, by go_num, by go_num, hfit, rfl, Lib.hid (by rw [List.length_append, hlen.out]; rfl), HO5.out, HB5.out, Lib.hid (by rw [List.map_append]; exact HRN.out), Lib.hid fun x hx => by
                rcases List.mem_append.1 hx with hx | hx
                · exact hkinds.out x hx
                · rw [List.mem_singleton] at hx; subst hx; show (0 : Int) ≤ 2; omega⟩
              case measure => simp [intOf]; omega
            · have hres : R = none := by rw [← hrun.out, HRD.out, if_neg (fun h => hfit h.2)]
              subst hres
              have hfit' : ((xs.length : Int) - at_ < n) := by omega
              clear hrun HRD hfn
              go_wp2_with (go_at_call 29; (with_reducible refine (K1.out _ ((Below.refl _ _).alloc (Nat.le_refl _) _)).mono ?_); rintro e w' ⟨rfl, rfl⟩)
              refine bodyPost_ret (v := .tuple #[.slice none 0 0, .int .i64 0, .bool false]) (by simp [results, Try.results17, go_sem]) rfl ⟨rfl, ?_⟩
              exact hd.out _ ((Below.refl _ _).alloc (Nat.le_refl _) _)
          · have hres : R = none := by rw [← hrun.out, HRD.out, if_neg (fun h => hfn h.1)]
            subst hres
            have hf1 : (1 : Int) < fk := by
              have h0 : fk ≠ 0 := fun e => hfn (by rw [e]; rfl)
              have h1 : fk ≠ 1 := fun e => hfn (by rw [e]; rfl)
              omega
            clear hrun HRD hfn
            go_wp2_with (go_at_call 29; (with_reducible refine (K1.out _ ((Below.refl _ _).alloc (Nat.le_refl _) _)).mono ?_); rintro e w' ⟨rfl, rfl⟩)
            refine bodyPost_ret (v := .tuple #[.slice none 0 0, .int .i64 0, .bool false]) (by simp [results, Try.results17, go_sem]) rfl ⟨rfl, ?_⟩
            exact hd.out _ ((Below.refl _ _).alloc (Nat.le_refl _) _)
      · have hres : R = none := by rw [← hrun.out, HRD.out, stp_no _ _ _ _ _ hk0 hk1 hk2 hk3]
        subst hres
        clear hrun HRD
        go_wp2
        refine bodyPost_ret (v := .tuple #[.slice none 0 0, .int .i64 0, .bool false]) (by simp [results, Try.results17, go_sem]) rfl ⟨rfl, ?_⟩
        exact hd.out _ ((Below.refl _ _).alloc (Nat.le_refl _) _)
    · have hil : i = ks.length := by omega
      have hres : R = some (l.map (·.f), at_) := by rw [← hrun.out, run_done (by omega)]
      subst hres
      have HP : Hid (ReadPost (some (l.map (·.f), at_)) w (.returned (.tuple #[.slice lo i lc, .int .i64 at_, .bool true])) wr) := Lib.hid (by
        have := HO.out
        rw [← hlen.out] at this ⊢
        exact ⟨lo, lc, l, rfl, rfl, this.fs, HB.out⟩)
      clear hrun
      go_wp2
      refine bodyPost_ret (v := .tuple #[.slice lo i lc, .int .i64 at_, .bool true]) (by simp [results, Try.results17, go_sem]) rfl HP.out
end Go.Proofs.Ytflabomkgkojlaa
