/-
  The reference's Pack of a length out of bounds; Pack and Unpack told for whatever rows.
-/
import Derived.Test.YtccfbkbfmkdapaaTc
namespace Go.Proofs.Ytccfbkbfmkdapaa
open Go.RowKit

set_option maxHeartbeats 4000000 in
set_option maxRecDepth 100000 in
theorem rpack_bad (ao : Option Addr) (c : Nat) (zs : List Int) (w : World) (h : IS w ao zs) (hl : zs.length ≤ 1000) (hb : anyBad 0 15 zs = true) :
    Calls Try.prog 20 #[.slice ao zs.length c] w fun e w' => e = .returned (.slice none 0 0) ∧ Below w.heap.size w w' := by
  have HBD : Hid (∃ k, k < zs.length ∧ ¬ (0 ≤ zs.getD k 0 ∧ zs.getD k 0 ≤ 15)) := Lib.hid (by
    obtain ⟨z, hz, hb⟩ := List.any_eq_true.1 hb
    obtain ⟨k, hk, rfl⟩ := List.getElem_of_mem hz
    have h1 : Bad 0 15 zs[k] := of_decide_eq_true hb
    refine ⟨k, hk, ?_⟩
    rw [show zs.getD k 0 = zs[k] by simp [List.getD, hk]]
    unfold Bad at h1
    omega)
  have HB1 : Hid (Below w.heap.size w (w.alloc (.cells #[] 40))) := Lib.hid ((Below.refl _ _).alloc (Nat.le_refl _) _)
  have HI := Lib.hid (h.below HB1.out)
  clear h hb
  obtain ⟨L, hL⟩ : ∃ L, L = zs.length := ⟨_, rfl⟩
  have HLN := Lib.hid hL
  rw [← hL] at hl ⊢
  clear hL
  go_enter Try.func20, Try.ntmps20
  go_wp2
  generalize w.alloc (.cells #[] 40) = w1 at HI HB1 ⊢
  generalize (⟨w.heap.size, 0, none⟩ : Addr) = ad
  go_loopw [4] (fun i wr => ∃ k : Nat, k ≤ L ∧ i = .int .i64 k ∧ (∀ j, j < k → 0 ≤ zs.getD j 0 ∧ zs.getD j 0 ≤ 15) ∧ wr = w1) (fun i _ => L - (intOf i).toNat)
  case atStart => exact ⟨0, Nat.zero_le _, rfl, fun j hj => absurd hj (Nat.not_lt_zero j), rfl⟩
  case round =>
    obtain ⟨k, hk, rfl, hj, rfl⟩ := hrel
    have HJ := Lib.hid hj
    clear hj
    by_cases hlt : k < L
    · have hkk : (k : Int) < L := by omega
      obtain ⟨b1, o1, rfl, q1⟩ := HI.out.at (k := k) (by rw [← HLN.out]; exact hlt)
      obtain ⟨x, hx⟩ : ∃ x, x = zs.getD k 0 := ⟨_, rfl⟩
      rw [← hx] at q1
      have HX := Lib.hid hx
      clear hx
      by_cases h1 : x < 0
      · have z1 : decide (x < 0) = true := decide_eq_true h1
        clear h1
        go_wp2
        go_ret
        exact ⟨rfl, HB1.out⟩
      · by_cases h2 : 15 < x
        · have z1 : decide (x < 0) = false := decide_eq_false h1
          have z2 : decide ((15 : Int) < x) = true := decide_eq_true h2
          clear h1 h2
          go_wp2
          go_ret
          exact ⟨rfl, HB1.out⟩
        · have z1 : decide (x < 0) = false := decide_eq_false h1
          have z2 : decide ((15 : Int) < x) = false := decide_eq_false h2
          have HXB : Hid (0 ≤ x ∧ x ≤ 15) := Lib.hid (by omega)
          clear h1 h2
          go_wp2
          go_roundw
          case rel =>
            refine ⟨k + 1, by omega, by go_num, fun j hj => ?_, trivial⟩
            rcases (show j < k ∨ j = k by omega) with h | rfl
            · exact HJ.out j h
            · rw [← HX.out]; exact HXB.out
          case measure => simp [intOf]; omega
    · exfalso
      obtain ⟨j, h1, h2⟩ := HBD.out
      exact h2 (HJ.out j (by have := HLN.out; omega))

/-! ### Pack, whatever the lengths -/
def pks (zs : List Int) : List (Int × Int) := if anyBad 0 15 zs = true then [] else pkl zs
/-- What Unpack tells of it. -/
def tks (zs : List Int) : List Int := if anyBad 0 15 zs = true then [] else zs
theorem nobad_all {zs : List Int} (h : ¬ anyBad 0 15 zs = true) : ∀ k, k < zs.length → 0 ≤ zs.getD k 0 ∧ zs.getD k 0 ≤ 15 := fun k hk => by
  have h' : anyBad 0 15 zs = false := by simpa using h
  have h1 := List.any_eq_false.1 h' (zs.getD k 0) (by rw [List.getD_eq_getElem?_getD, List.getElem?_eq_getElem hk]; exact List.getElem_mem hk)
  have h2 : ¬ Bad 0 15 (zs.getD k 0) := fun e => h1 (decide_eq_true e)
  unfold Bad at h2; omega
theorem all_nobad {zs : List Int} (h : ∀ k, k < zs.length → 0 ≤ zs.getD k 0 ∧ zs.getD k 0 ≤ 15) : ¬ anyBad 0 15 zs = true := fun hb => by
  obtain ⟨z, hz, hb⟩ := List.any_eq_true.1 hb
  obtain ⟨k, hk, rfl⟩ := List.getElem_of_mem hz
  have h1 : Bad 0 15 zs[k] := of_decide_eq_true hb
  have h2 := h k hk
  rw [show zs.getD k 0 = zs[k] by simp [List.getD, hk]] at h2
  unfold Bad at h1
  omega
theorem pk_len (zs : List Int) (f : Nat) : ∀ a, (pk zs f a).length ≤ f := by
  induction f with
  | zero => intro a; exact Nat.le_refl _
  | succ f ih =>
    intro a
    rw [pk]
    split
    · rw [List.length_cons]; have := ih (a + lmany zs a); omega
    · exact Nat.zero_le _
theorem pks_len (zs : List Int) : (pks zs).length ≤ zs.length := by
  unfold pks
  split
  · exact Nat.zero_le _
  · exact pk_len zs _ 0
theorem un_pks {zs : List Int} (hl : zs.length ≤ 320) : un (pks zs) [] = some (tks zs) := by
  unfold pks tks
  by_cases h : anyBad 0 15 zs = true
  · rw [if_pos h, if_pos h]; rfl
  · rw [if_neg h, if_neg h]
    exact un_pkl hl (nobad_all h)
/-- Packed, or nothing. -/
def Pkd (zs : List Int) (w : World) (e : Ending) (w' : World) : Prop := ∃ ao c, e = .returned (.slice ao (pks zs).length c) ∧ TS w' ao (pks zs) ∧ Below w.heap.size w w'
theorem pack_all (ao : Option Addr) (c : Nat) (zs : List Int) (w : World) (h : IS w ao zs) (hl : zs.length ≤ 1000) {n : Nat} (hn : n = zs.length) : Calls Try.prog 16 #[.slice ao n c] w (Pkd zs w) := by
  subst hn
  unfold Pkd pks
  by_cases hb : anyBad 0 15 zs = true
  · rw [if_pos hb]
    exact (pack_bad ao c zs w h hl hb).mono fun e w' ⟨he, hb⟩ => ⟨none, 0, he, .inl rfl, hb⟩
  · rw [if_neg hb]
    exact pack_fine ao c zs w h hl (by simpa using hb)
theorem rpack_all (ao : Option Addr) (c : Nat) (zs : List Int) (w : World) (h : IS w ao zs) (hl : zs.length ≤ 1000) {n : Nat} (hn : n = zs.length) : Calls Try.prog 20 #[.slice ao n c] w (Pkd zs w) := by
  subst hn
  unfold Pkd pks
  by_cases hb : anyBad 0 15 zs = true
  · rw [if_pos hb]
    exact (rpack_bad ao c zs w h hl hb).mono fun e w' ⟨he, hb⟩ => ⟨none, 0, he, .inl rfl, hb⟩
  · rw [if_neg hb]
    exact rpack_fine ao c zs w h hl (nobad_all hb)

/-! ### Unpack, whatever the items -/
theorem un_len {r : List (Int × Int)} : ∀ {ts us : List Int}, un r ts = some us → ts.length ≤ 320 → us.length ≤ 320 := by
  induction r with
  | nil => intro ts us h hl; rw [un] at h; cases h; exact hl
  | cons a r ih =>
    obtain ⟨s, x⟩ := a
    intro ts us h hl
    rw [un] at h
    split at h
    · cases h
    · next hw =>
      refine ih h ?_
      rw [List.length_append, List.length_replicate]
      unfold Wi at hw
      omega
def unl (r : List (Int × Int)) : List Int := (un r []).getD []
def unb (r : List (Int × Int)) : Bool := (un r []).isSome
theorem unl_len (r : List (Int × Int)) : (unl r).length ≤ 320 := by
  unfold unl
  cases h : un r [] with
  | none => exact Nat.zero_le _
  | some ts => exact un_len h (Nat.zero_le _)
/-- Told, or nothing. -/
def Tld (r : List (Int × Int)) (w : World) (e : Ending) (w' : World) : Prop := ∃ ao c, e = .returned (.tuple #[.slice ao (unl r).length c, .bool (unb r)]) ∧ IS w' ao (unl r) ∧ Below w.heap.size w w'
theorem Unp.told {r : List (Int × Int)} {w w' : World} {e : Ending} (h : Unp (un r []) w e w') : Tld r w e w' := by
  obtain ⟨hb, h1, h2⟩ := h
  unfold Tld unl unb
  cases hu : un r [] with
  | none => exact ⟨none, 0, h1 hu, .inl rfl, hb⟩
  | some ts =>
    obtain ⟨ao, c, he, hi⟩ := h2 ts hu
    exact ⟨ao, c, he, hi, hb⟩
theorem unpack_all (ao : Option Addr) (c : Nat) (r : List (Int × Int)) (w : World) (h : TS w ao r) (hl : r.length ≤ 1000) {n : Nat} (hn : n = r.length) : Calls Try.prog 17 #[.slice ao n c] w (Tld r w) :=
  hn ▸ (unpack_any ao c r w h hl).mono fun _ _ h => h.told
theorem runpack_all (ao : Option Addr) (c : Nat) (r : List (Int × Int)) (w : World) (h : TS w ao r) (hl : r.length ≤ 1000) {n : Nat} (hn : n = r.length) : Calls Try.prog 18 #[.slice ao n c] w (Tld r w) :=
  hn ▸ (runpack_any ao c r w h hl).mono fun _ _ h => h.told
theorem tld_pks {zs : List Int} (hl : zs.length ≤ 320) : unl (pks zs) = tks zs ∧ unb (pks zs) = true := by
  unfold unl unb
  rw [un_pks hl]
  exact ⟨rfl, rfl⟩
end Go.Proofs.Ytccfbkbfmkdapaa
