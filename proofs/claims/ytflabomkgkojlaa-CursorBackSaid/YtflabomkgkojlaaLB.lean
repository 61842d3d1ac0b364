/-
  The library's search from the end, by hashes.
-/
import Derived.Test.YtflabomkgkojlaaLA
import Derived.Test.YtflabomkgkojlaaB
import Derived.Deep.LoopGhost
import Derived.Lib.Walk
import Derived.Laws.Strings3
import Derived.Laws.BytesArg
namespace Go.Proofs.Ytflabomkgkojlaa
open Go.RowKit Go.Lib

set_option maxHeartbeats 6400000 in
set_option maxRecDepth 100000 in
theorem lastrk_loop (b1 o1 c1 b2 o2 c2 : Nat) (s sep : ByteArray) (h1 : 1 ≤ sep.size) (h2 : sep.size ≤ s.size) (hs : s.size < 4611686018427387904) (w : World)
    (hc1 : Lib.Bytes w b1 o1 s) (hc2 : Lib.Bytes w b2 o2 sep) (hcap : s.size ≤ c1) :
    Calls Try.prog 36 #[.slice (some ⟨b1, o1, none⟩) s.size c1, .slice (some ⟨b2, o2, none⟩) sep.size c2] w fun e w' => e = .returned (.int .i64 (Lib.lastIndex s.data.toList sep.data.toList)) ∧ ∃ q, w' = w.drewN q := by
  obtain ⟨hh, Hh⟩ : ∃ hh : Int, hh = RK.H sep.data.toList.reverse % 4294967296 := ⟨_, rfl⟩
  obtain ⟨pw, Hp⟩ : ∃ pw : Int, pw = 16777619 ^ sep.size % 4294967296 := ⟨_, rfl⟩
  have hcall := hashrev_any b2 o2 c2 sep (by omega) w hc2
  rw [← Hh, ← Hp] at hcall
  have HCALL := Lib.hid hcall
  have HH := Lib.hid Hh
  have HP := Lib.hid Hp
  clear Hh Hp hcall
  obtain ⟨last, hlast⟩ : ∃ last : Nat, last + sep.size = s.size := ⟨s.size - sep.size, by omega⟩
  have elast : (s.size : Int) - sep.size = last := by omega
  have HL : Hid (Lib.lastIndex s.data.toList sep.data.toList = Lib.lastOcc s.data.toList sep.data.toList (last + 1)) := Lib.hid (by
    unfold Lib.lastIndex
    rw [if_pos (by simp; omega)]
    congr 1
    simp; omega)
  have HLAST := Lib.hid hlast
  -- 's[last:]', 's[i:i+n]', and their texts
  have hsl0 : ∀ W, (Instr.slice 22 (.slice (some ⟨b1, o1, none⟩) s.size c1) (some (.int .i64 (last : Int))) none none).run Try.prog W = .ok (.slice (some ⟨b1, o1 + last, none⟩) sep.size (c1 - last)) W := fun W => by
    rw [run_slice_l W 22 (some ⟨b1, o1, none⟩) s.size c1 ht22 .i64 _ (by omega) (by omega), elem22, size5]
    simp only [Result.andThen, sliced, Int.toNat_natCast, Nat.mul_one]
    rw [if_neg (by omega)]
    simp only [Option.map_some, Addr.add_lit]
    rw [show s.size - last = sep.size from by omega]
  have hv : ∀ n j cap, j + sep.size ≤ s.size → (convert 22 9 (.slice (some ⟨b1, o1 + j, none⟩) sep.size cap)).run Try.prog (w.drewN n) = .ok (.string (s.extract j (j + sep.size))) (w.drewN n) := fun n j cap hj =>
    Lib.run_convert_window (P := Try.prog) _ 22 5 9 Try.underlying22 Try.underlying5 Try.underlying9 b1 o1 s (Lib.Bytes.drewN hc1 n) j sep.size cap hj
  have HV := Lib.hid hv
  have hv0 : ∀ n, (convert 22 9 (.slice (some ⟨b1, o1 + last, none⟩) sep.size (c1 - last))).run Try.prog (w.drewN n) = .ok (.string (s.extract last s.size)) (w.drewN n) := fun n => by
    have := hv n last (c1 - last) (by omega)
    rwa [hlast] at this
  have hvs : ∀ n, (convert 22 9 (.slice (some ⟨b2, o2, none⟩) sep.size c2)).run Try.prog (w.drewN n) = .ok (.string sep) (w.drewN n) := fun n =>
    Lib.run_convert_whole (P := Try.prog) (w.drewN n) 22 5 9 Try.underlying22 Try.underlying5 Try.underlying9 b2 o2 sep (Lib.Bytes.drewN hc2 n) c2
  have C1 := Lib.hid hc1
  clear hc1 hc2 hv hlast
  go_enter Try.func36, Try.ntmps36
  go_wp2_with (go_at_call 41; refine HCALL.out.mono ?_; rintro e w' ⟨rfl, rfl⟩)
  go_loop [9, 10] (fun vh vi => ∃ (k : Nat) (h : Int), last ≤ k ∧ k ≤ s.size ∧ vi = .int .i64 ((k : Int) - 1) ∧ vh = .int .u32 h ∧ Hid (h = RK.H (s.data.toList.drop k).reverse % 4294967296)) (fun _ vi => ((RowKit.intOf vi) + 1).toNat)
  case atStart => exact ⟨s.size, 0, by have := HLAST.out; omega, Nat.le_refl _, rfl, rfl, by show (0 : Int) = _; rw [List.drop_of_length_le (by simp)]; rfl⟩
  case round =>
    obtain ⟨k, h, hk1, hk, rfl, rfl, hk2⟩ := hrel
    by_cases hlt : last < k
    · obtain ⟨j, rfl⟩ : ∃ j, k = j + 1 := ⟨k - 1, by omega⟩
      have ck := C1.out j (by omega)
      have HS := Lib.hid (LastIndex.hashrev_step s (j + 1) (by omega) hk hk2.out)
      rw [show ((j + 1 : Nat) : Int) - 1 = (j : Int) from by omega]
      have hlj : (last : Int) ≤ j := by omega
      clear hk2
      go_wp2
      go_round
      case rel => exact ⟨j, _, by omega, by omega, rfl, rfl, by exact HS⟩
      case measure => simp [RowKit.intOf]
    · have hkl : k = last := by omega
      subst hkl
      have hle : ¬ ((k : Int) ≤ (k : Int) - 1) := by omega
      have Hwin : Hid (h = RK.H (RK.win s.data.toList k sep.size).reverse % 4294967296) := Lib.hid (by
        have := hk2.out
        rwa [show s.data.toList.drop k = RK.win s.data.toList k sep.size from (List.take_of_length_le (by simp; have := HLAST.out; omega)).symm] at this)
      clear hk2
      by_cases ehh : h = hh
      · subst ehh
        go_wp2_with fail
        go_quiet (fail)
        go_wp2
        · have hcmp : ((s.extract k s.size).toList == sep.toList) = true := by assumption
          go_ret
          have ho := occ_yes s sep k (by have := HLAST.out; omega) (by rw [HLAST.out]; exact hcmp)
          rw [HL.out, Lib.lastOcc_hit _ _ k ho]
          exact ⟨rfl, _, rfl⟩
        · have hcmp : ((s.extract k s.size).toList == sep.toList) = false := by assumption
          have HL2 : Hid (Lib.lastIndex s.data.toList sep.data.toList = Lib.lastOcc s.data.toList sep.data.toList k) := Lib.hid (HL.out.trans (Lib.lastOcc_miss _ _ k (occ_no s sep k (by have := HLAST.out; omega) (by rw [HLAST.out]; exact hcmp))))
          simp only [hcmp]
          clear HL hcmp hsl0 hv0
          go_loopg [9, 11] (s.size + 1) (fun gh vh vi wr => ∃ (j : Nat) (g : Int) (q : Nat), j ≤ k ∧ j + 1 ≤ gh ∧ vi = .int .i64 ((j : Int) - 1) ∧ vh = .int .u32 g ∧ wr = w.drewN q ∧ Hid (g = RK.H (RK.win s.data.toList j sep.size).reverse % 4294967296) ∧ Hid (Lib.lastIndex s.data.toList sep.data.toList = Lib.lastOcc s.data.toList sep.data.toList j))
          case atStart => exact ⟨k, _, _, Nat.le_refl _, by omega, rfl, rfl, rfl, Hwin, HL2⟩
          case round =>
            obtain ⟨j, g, q, hj, hgh, rfl, rfl, rfl, hg, hl⟩ := hrel
            rcases j with _ | i
            · go_wp2
              go_ret
              rw [hl.out]
              exact ⟨rfl, _, rfl⟩
            · have hlst := HLAST.out
              have ck1 := C1.out i (by omega)
              have ck2 := C1.out (i + sep.size) (by omega)
              have HR := Lib.hid (LastIndex.rollrev_step s sep.size i h1 (by omega) hg.out HP.out)
              rw [show ((i + 1 : Nat) : Int) - 1 = (i : Int) from by omega]
              have hsl : ∀ W, (Instr.slice 22 (.slice (some ⟨b1, o1, none⟩) s.size c1) (some (.int .i64 (i : Int))) (some (.int .i64 ((i : Int) + sep.size))) none).run Try.prog W = .ok (.slice (some ⟨b1, o1 + i, none⟩) sep.size (c1 - i)) W := fun W => by
                rw [show (i : Int) + sep.size = ((i + sep.size : Nat) : Int) from by omega, Lib.run_slice_window W 22 5 Try.underlying22 size5 b1 o1 s.size c1 _ _ (by omega) (by omega), show i + sep.size - i = sep.size from by omega]
              have hwr : IntKind.i64.wrap ((i : Int) + sep.size) = (i : Int) + sep.size := by rw [IntKind.wrap_i64]; omega
              have hv : ∀ n cap, (convert 22 9 (.slice (some ⟨b1, o1 + i, none⟩) sep.size cap)).run Try.prog (w.drewN n) = .ok (.string (s.extract i (i + sep.size))) (w.drewN n) := fun n cap => HV.out n i cap (by omega)
              have hidx : ((i : Int) + sep.size).toNat = i + sep.size := by omega
              clear hg hlst
              by_cases heq : (g * 16777619 + (s[i].toNat : Int) - pw * ((s[i + sep.size].toNat : Int) % 4294967296)) % 4294967296 = h
              · go_wp2_with fail
                go_quiet (fail)
                go_wp2
                · have hcmp : ((s.extract i (i + sep.size)).toList == sep.toList) = true := by assumption
                  have ho := occ_yes s sep i (by have := HLAST.out; omega) hcmp
                  go_ret
                  rw [hl.out, Lib.lastOcc_hit _ _ i ho]
                  exact ⟨rfl, _, World.drewN_drewN _ _ _⟩
                · have hcmp : ((s.extract i (i + sep.size)).toList == sep.toList) = false := by assumption
                  have HN := Lib.hid (occ_no s sep i (by have := HLAST.out; omega) hcmp)
                  go_roundg (i + 1)
                  case measure => omega
                  case rel => exact ⟨i, _, _, by omega, by omega, rfl, rfl, (by first | rfl | exact World.drewN_drewN _ _ _), (by have h1 := HR.out; refine Lib.hid ?_; omega), Lib.hid (hl.out.trans (Lib.lastOcc_miss _ _ i HN.out))⟩
              · have HN := Lib.hid (LastIndex.occ_no_hashrev s sep i (by have := HLAST.out; omega) HR.out HH.out heq)
                go_wp2_with fail
                go_quiet (fail)
                go_wp2
                go_roundg (i + 1)
                case measure => omega
                case rel => exact ⟨i, _, _, by omega, by omega, rfl, rfl, (by first | rfl | exact World.drewN_drewN _ _ _), (by have h1 := HR.out; refine Lib.hid ?_; omega), Lib.hid (hl.out.trans (Lib.lastOcc_miss _ _ i HN.out))⟩
      · have HL2 : Hid (Lib.lastIndex s.data.toList sep.data.toList = Lib.lastOcc s.data.toList sep.data.toList k) := Lib.hid (HL.out.trans (Lib.lastOcc_miss _ _ k (LastIndex.occ_no_hashrev s sep k (by have := HLAST.out; omega) Hwin.out HH.out ehh)))
        go_wp2_with fail
        go_quiet (fail)
        go_wp2
        clear HL hsl0 hv0
        go_loopg [9, 11] (s.size + 1) (fun gh vh vi wr => ∃ (j : Nat) (g : Int) (q : Nat), j ≤ k ∧ j + 1 ≤ gh ∧ vi = .int .i64 ((j : Int) - 1) ∧ vh = .int .u32 g ∧ wr = w.drewN q ∧ Hid (g = RK.H (RK.win s.data.toList j sep.size).reverse % 4294967296) ∧ Hid (Lib.lastIndex s.data.toList sep.data.toList = Lib.lastOcc s.data.toList sep.data.toList j))
        case atStart => exact ⟨k, _, _, Nat.le_refl _, by omega, rfl, rfl, rfl, Hwin, HL2⟩
        case round =>
          obtain ⟨j, g, q, hj, hgh, rfl, rfl, rfl, hg, hl⟩ := hrel
          rcases j with _ | i
          · go_wp2
            go_ret
            rw [hl.out]
            exact ⟨rfl, _, rfl⟩
          · have hlst := HLAST.out
            have ck1 := C1.out i (by omega)
            have ck2 := C1.out (i + sep.size) (by omega)
            have HR := Lib.hid (LastIndex.rollrev_step s sep.size i h1 (by omega) hg.out HP.out)
            rw [show ((i + 1 : Nat) : Int) - 1 = (i : Int) from by omega]
            have hsl : ∀ W, (Instr.slice 22 (.slice (some ⟨b1, o1, none⟩) s.size c1) (some (.int .i64 (i : Int))) (some (.int .i64 ((i : Int) + sep.size))) none).run Try.prog W = .ok (.slice (some ⟨b1, o1 + i, none⟩) sep.size (c1 - i)) W := fun W => by
              rw [show (i : Int) + sep.size = ((i + sep.size : Nat) : Int) from by omega, Lib.run_slice_window W 22 5 Try.underlying22 size5 b1 o1 s.size c1 _ _ (by omega) (by omega), show i + sep.size - i = sep.size from by omega]
            have hwr : IntKind.i64.wrap ((i : Int) + sep.size) = (i : Int) + sep.size := by rw [IntKind.wrap_i64]; omega
            have hv : ∀ n cap, (convert 22 9 (.slice (some ⟨b1, o1 + i, none⟩) sep.size cap)).run Try.prog (w.drewN n) = .ok (.string (s.extract i (i + sep.size))) (w.drewN n) := fun n cap => HV.out n i cap (by omega)
            have hidx : ((i : Int) + sep.size).toNat = i + sep.size := by omega
            clear hg hlst
            by_cases heq : (g * 16777619 + (s[i].toNat : Int) - pw * ((s[i + sep.size].toNat : Int) % 4294967296)) % 4294967296 = hh
            · go_wp2_with fail
              go_quiet (fail)
              go_wp2
              · have hcmp : ((s.extract i (i + sep.size)).toList == sep.toList) = true := by assumption
                have ho := occ_yes s sep i (by have := HLAST.out; omega) hcmp
                go_ret
                rw [hl.out, Lib.lastOcc_hit _ _ i ho]
                exact ⟨rfl, _, World.drewN_drewN _ _ _⟩
              · have hcmp : ((s.extract i (i + sep.size)).toList == sep.toList) = false := by assumption
                have HN := Lib.hid (occ_no s sep i (by have := HLAST.out; omega) hcmp)
                go_roundg (i + 1)
                case measure => omega
                case rel => exact ⟨i, _, _, by omega, by omega, rfl, rfl, (by first | rfl | exact World.drewN_drewN _ _ _), (by have h1 := HR.out; refine Lib.hid ?_; omega), Lib.hid (hl.out.trans (Lib.lastOcc_miss _ _ i HN.out))⟩
            · have HN := Lib.hid (LastIndex.occ_no_hashrev s sep i (by have := HLAST.out; omega) HR.out HH.out heq)
              go_wp2_with fail
              go_quiet (fail)
              go_wp2
              go_roundg (i + 1)
              case measure => omega
              case rel => exact ⟨i, _, _, by omega, by omega, rfl, rfl, (by first | rfl | exact World.drewN_drewN _ _ _), (by have h1 := HR.out; refine Lib.hid ?_; omega), Lib.hid (hl.out.trans (Lib.lastOcc_miss _ _ i HN.out))⟩
end Go.Proofs.Ytflabomkgkojlaa
