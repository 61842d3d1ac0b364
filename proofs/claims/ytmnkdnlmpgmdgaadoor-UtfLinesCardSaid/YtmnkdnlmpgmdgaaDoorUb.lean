/-
  Next: the sign at a place.
-/
import Derived.Test.YtmnkdnlmpgmdgaaDoorC
import Derived.Test.YtmnkdnlmpgmdgaaDoorUa
import Derived.Test.YtmnkdnlmpgmdgaaDoorUL
namespace Go.Proofs.YtmnkdnlmpgmdgaaDoor
open Go.RowKit U
set_option maxRecDepth 100000

/-- The library's tables as its text lays them; its bound on short texts, whatever it is. -/
structure TU (w : World) : Prop where
  utf : Lib.Utf8Tabs 0 1 w
  len : ∃ m : Int, w.cell? ⟨2, 0, none⟩ = some (.int .i64 m)
theorem TU.grow {w w' : World} (h : TU w) (hb : Below w.heap.size w w') : TU w' :=
  ⟨Utf8Tabs_below h.utf hb, by
    obtain ⟨m, hm⟩ := h.len
    exact ⟨m, (hb.cell (World.block_lt_of_cell? w _ hm)).trans hm⟩⟩

def BA (l : List Nat) : ByteArray := ⟨(l.map UInt8.ofNat).toArray⟩
theorem BA_size (l : List Nat) : (BA l).size = l.length := by simp [BA, ByteArray.size]
theorem BA_get {l : List Nat} (hb : Bs l) (i : Nat) : ((BA l).get! i).toNat = l.getD i 0 := by
  show ((l.map UInt8.ofNat).toArray[i]!).toNat = _
  by_cases h : i < l.length
  · have h2 := hb _ (List.getElem_mem h)
    rw [getElem!_pos _ i (by simpa using h)]
    simp [List.getD, h]
    omega
  · rw [getElem!_neg _ i (by simpa using h), List.getD_eq_getElem?_getD, List.getElem?_eq_none (by omega : l.length ≤ i)]
    decide
theorem decodeGo_BA {l : List Nat} (hb : Bs l) (hne : l ≠ []) : Lib.decodeGo (BA l) = decL l := by
  have hl := List.length_pos_iff.2 hne
  unfold Lib.decodeGo decL
  rw [if_neg (by rw [BA_size]; omega), Lib.decode_at, BA_size, BA_get hb, BA_get hb, BA_get hb, BA_get hb]
  rfl
/-- What Next answers. -/
def nxF (xs : List Nat) (at_ : Int) : Nat × Nat := if at_ < 0 then (0, 0) else nx (xs.drop at_.toNat)
theorem nx_nil : nx [] = (0, 0) := rfl
theorem nxF_nat (xs : List Nat) (k : Nat) : nxF xs k = nx (xs.drop k) := by unfold nxF; rw [if_neg (by omega)]; rfl
theorem nx_le4 (L : List Nat) (hb : Bs L) : (nx L).2 ≤ 4 ∧ (nx L).2 ≤ L.length ∧ (nx L).1 ≤ 1114111 := by
  by_cases h : (nx L).2 = 0
  · rw [nx_none h]; exact ⟨by decide, Nat.zero_le _, by decide⟩
  · obtain ⟨h1, h2, h3, h4⟩ := nx_some hb h
    exact ⟨by rw [h2]; exact enc_le _, h4, h1.1⟩

set_option maxHeartbeats 1600000 in
theorem Next_any (ao : Option Addr) (c : Nat) (xs : List Nat) (at_ : Int) (w : World) (h : Sl w ao c xs) (hT : TU w) :
    Calls Tryd.prog 10 #[.slice ao xs.length c, .int .i64 at_] w fun e w' => e = .returned (.tuple #[.int .i32 ((nxF xs at_).1 : Nat), .int .i64 ((nxF xs at_).2 : Nat)]) ∧ Below w.heap.size w w' := by
  have hm := Nat.le_trans h.le h.big
  by_cases c1 : at_ < 0
  · have e : nxF xs at_ = (0, 0) := by unfold nxF; rw [if_pos c1]
    rw [e]
    clear h hT e
    go_enter Tryd.func10, Tryd.ntmps10
    go_wp2
    go_ret2
    exact ⟨rfl, Below.refl _ _⟩
  by_cases c2 : (xs.length : Int) ≤ at_
  · have e : nxF xs at_ = (0, 0) := by unfold nxF; rw [if_neg c1, List.drop_eq_nil_of_le (by omega)]; rfl
    rw [e]
    clear h hT e
    go_enter Tryd.func10, Tryd.ntmps10
    go_wp2
    go_ret2
    exact ⟨rfl, Below.refl _ _⟩
  obtain ⟨k, rfl⟩ : ∃ k : Nat, at_ = (k : Int) := ⟨at_.toNat, by omega⟩
  have hk : k < xs.length := by omega
  rcases h.src with h0 | ⟨b, off, rfl, hc⟩
  · rw [h0] at hk; simp at hk
  obtain ⟨L, hL⟩ : ∃ L, L = xs.drop k := ⟨_, rfl⟩
  have hLl : L.length = xs.length - k := by rw [hL]; simp
  have hbs : Bs L := by rw [hL]; exact h.bs.drop k
  have hne : L ≠ [] := by intro e; rw [e] at hLl; simp at hLl; omega
  have hsl := slice_l (some ⟨b, off, none⟩) xs.length c k (by omega)
  have hnotcap : ¬ c = k := by have := h.le; omega
  rw [cutA, if_neg hnotcap] at hsl
  have K := Any7.utf8_DecodeRune ldec (BA L) b (off + k) (c - k) w hT.utf (fun j hj => by
    rw [BA_size, hLl] at hj
    have := hc (k + j) (by omega)
    rw [Nat.add_assoc, this, BA_get hbs, hL]
    simp [List.getD])
  rw [BA_size, decodeGo_BA hbs hne, hLl] at K
  have K : Hid (Calls Tryd.prog 31 #[.slice (some ⟨b, off + k, none⟩) (xs.length - k) (c - k)] w fun e w' => e = .returned (.tuple #[.int .i32 ((decL L).1 : Nat), .int .i64 ((decL L).2 : Nat)]) ∧ Below w.heap.size w w') := Lib.hid K
  have hnx : nxF xs (k : Int) = if (decL L).1 = 65533 ∧ (decL L).2 = 1 then (0, 0) else decL L := by
    rw [nxF_nat, ← hL]; unfold nx; rw [if_neg hne]
  obtain ⟨R, hR⟩ : ∃ R, R = nxF xs (k : Int) := ⟨_, rfl⟩
  rw [← hR] at hnx ⊢
  have HN := Lib.hid hnx
  obtain ⟨dr, hdr⟩ : ∃ dr, dr = (decL L).1 := ⟨_, rfl⟩
  obtain ⟨dn, hdn⟩ : ∃ dn, dn = (decL L).2 := ⟨_, rfl⟩
  have hdd : decL L = (dr, dn) := by rw [hdr, hdn]
  rw [← hdr, ← hdn] at K
  rw [hdd] at HN
  have HM := Lib.hid h.le
  clear hR hnx hdr hdn hdd hc hbs hne hLl hT h
  rw [Option.map_some, Nat.mul_one, Addr.add_lit] at hsl
  by_cases d1 : dr = 65533
  · by_cases d2 : dn = 1
    · subst d1 d2
      have HR : Hid (R = (0, 0)) := Lib.hid (by rw [HN.out]; simp)
      go_enter Tryd.func10, Tryd.ntmps10
      go_wp2_with (go_at_call 31; (with_reducible refine K.out.mono ?_); rintro e w1 ⟨rfl, hb⟩; have HB := Lib.hid hb; clear hb)
      go_ret2
      exact ⟨by rw [HR.out]; rfl, HB.out⟩
    · have d2' : ¬ (dn : Int) = 1 := by omega
      have HR : Hid (R = (dr, dn)) := Lib.hid (by rw [HN.out, if_neg (by simp [d2])])
      clear d2
      subst d1
      go_enter Tryd.func10, Tryd.ntmps10
      go_wp2_with (go_at_call 31; (with_reducible refine K.out.mono ?_); rintro e w1 ⟨rfl, hb⟩; have HB := Lib.hid hb; clear hb)
      go_ret2
      exact ⟨by rw [HR.out]; rfl, HB.out⟩
  · have d1' : ¬ (dr : Int) = 65533 := by omega
    have HR : Hid (R = (dr, dn)) := Lib.hid (by rw [HN.out, if_neg (by simp [d1])])
    clear d1
    go_enter Tryd.func10, Tryd.ntmps10
    go_wp2_with (go_at_call 31; (with_reducible refine K.out.mono ?_); rintro e w1 ⟨rfl, hb⟩; have HB := Lib.hid hb; clear hb)
    go_ret2
    exact ⟨by rw [HR.out]; rfl, HB.out⟩
end Go.Proofs.YtmnkdnlmpgmdgaaDoor
