/-
  The same fields.
-/
import Derived.Test.YtflabomkgkojlaaO
namespace Go.Proofs.Ytflabomkgkojlaa
open Go.RowKit

theorem Fs.drewN {w : World} {ao : Option Addr} {l : List Fe} (h : Fs w ao l) (q : Nat) : Fs (w.drewN q) ao l := h.below (below_drewN (Below.refl _ _) q)

set_option maxHeartbeats 1600000 in
set_option maxRecDepth 100000 in
theorem same_any (a1 a2 : Option Addr) (c1 c2 : Nat) (l1 l2 : List Fe) (w : World) (h1 : Fs w a1 l1) (h2 : Fs w a2 l2) (he : l1.map (·.f) = l2.map (·.f)) (hm : l1.length ≤ 1000000) :
    Calls Try.prog 18 #[.slice a1 l1.length c1, .slice a2 l1.length c2] w fun e w' => e = .returned (.bool true) ∧ Drew w w' := by
  have H1 := Lib.hid h1
  have H2 := Lib.hid h2
  have HE := Lib.hid he
  clear h1 h2 he
  go_enter Try.func18, Try.ntmps18
  go_wp2
  go_loopg [5] l1.length (fun gh vi wr => ∃ (i q : Nat), i ≤ l1.length ∧ l1.length - i ≤ gh ∧ vi = .int .i64 i ∧ wr = w.drewN q)
  case atStart => exact ⟨0, 0, Nat.zero_le _, by omega, rfl, rfl⟩
  case round =>
    obtain ⟨i, q, hi, hgh, rfl, hwr⟩ := hrel
    have HQ := Lib.hid hwr
    have H1 : Hid (Fs wr a1 l1) := Lib.hid (by rw [hwr]; exact H1.out.drewN q)
    have H2 : Hid (Fs wr a2 l2) := Lib.hid (by rw [hwr]; exact H2.out.drewN q)
    clear hwr
    by_cases hlt : i < l1.length
    · have hii : (i : Int) < l1.length := by omega
      have hx : l1[i]? = some l1[i] := List.getElem?_eq_getElem hlt
      have hl2 : l2.length = l1.length := by
        have := congrArg List.length HE.out
        simpa using this.symm
      have hy : l2[i]? = some l2[i] := List.getElem?_eq_getElem (by omega)
      obtain ⟨x, hxe⟩ : ∃ x, x = l1[i] := ⟨_, rfl⟩
      obtain ⟨y, hye⟩ : ∃ y, y = l2[i]'(by omega) := ⟨_, rfl⟩
      rw [← hxe] at hx
      rw [← hye] at hy
      have hxy : x.f = y.f := by
        have : (l1.map (·.f))[i]? = (l2.map (·.f))[i]? := by rw [HE.out]
        rw [List.getElem?_map, List.getElem?_map, hx, hy] at this
        simpa using this
      obtain ⟨g1, rfl, hF1⟩ := H1.out.get hx
      obtain ⟨g2, rfl, hF2⟩ := H2.out.get hy
      obtain ⟨⟨k, n, b⟩, bo1, bc1⟩ := x
      obtain ⟨⟨k2, n2, b2⟩, bo2, bc2⟩ := y
      simp only [Fd.mk.injEq] at hxy
      obtain ⟨rfl, rfl, rfl⟩ := hxy
      have a0 := hF1.c0
      have a1 := hF1.c1
      have a2 := hF1.c2
      have b0 := hF2.c0
      have b1 := hF2.c1
      have b2 := hF2.c2
      simp only at a0 a1 a2 b0 b1 b2
      have S1 := Lib.hid hF1.sl
      have S2 := Lib.hid hF2.sl
      simp only at S1 S2
      have KS := Lib.hid fun (m : Nat) => same_eq bo1 bo2 bc1 bc2 b (wr.drewN m) (S1.out.drewN m) (S2.out.drewN m)
      clear hF1 hF2 hx hy hxe hye hl2
      go_wp2_with fail
      go_quiet ((go_at_call 12; exact Calls.quiet_of (KS.out _)))
      go_wp2
      go_roundg (l1.length - (i + 1))
      case measure => omega
      case rel => exact ⟨i + 1, _, by omega, Nat.le_refl _, by go_num, (by rw [HQ.out]; exact World.drewN_drewN _ _ _)⟩
    · go_wp2
      go_ret
      exact ⟨rfl, q, HQ.out⟩
end Go.Proofs.Ytflabomkgkojlaa
