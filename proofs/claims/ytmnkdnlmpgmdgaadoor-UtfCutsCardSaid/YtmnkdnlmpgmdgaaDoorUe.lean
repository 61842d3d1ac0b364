/-
  Texts as bytes; Name.
-/
import Derived.Test.YtmnkdnlmpgmdgaaDoorUd
namespace Go.Proofs.YtmnkdnlmpgmdgaaDoor
open Go.RowKit U
set_option maxRecDepth 100000

/-- A text's bytes. -/
def bts (s : ByteArray) : List Nat := s.data.toList.map (·.toNat)
theorem bts_len (s : ByteArray) : (bts s).length = s.size := by rw [bts, List.length_map]; rfl
theorem bts_bs (s : ByteArray) : Bs (bts s) := fun x hx => by
  obtain ⟨y, _, rfl⟩ := List.mem_map.1 hx
  exact y.toNat_lt
/-- A text as a new row of bytes. -/
theorem text_run (s : ByteArray) (hl : s.size ≤ 1000000) : ∃ (NEW : World → World) (CAP : World → Nat), (∀ W, (convert 9 22 (.string s)).run Tryd.prog W = .ok (.slice (some ⟨W.heap.size, 0, none⟩) s.size (CAP W)) (NEW W)) ∧ (∀ W, Below W.heap.size W (NEW W)) ∧
    (∀ W, Sl (NEW W) (some ⟨W.heap.size, 0, none⟩) (CAP W) (bts s)) := by
  have hX : ∀ W : World, ∃ x : World × Nat, (convert 9 22 (.string s)).run Tryd.prog W = .ok (.slice (some ⟨W.heap.size, 0, none⟩) s.size x.2) x.1 ∧ Below W.heap.size W x.1 ∧ Sl x.1 (some ⟨W.heap.size, 0, none⟩) x.2 (bts s) := by
    intro w
    have hrun := run_bytes_of_string (P := Tryd.prog) w 9 22 5 s Tryd.underlying9 Tryd.underlying22 Tryd.underlying5
    obtain ⟨cp, hcp⟩ : ∃ cp, cp = grownCap w s.size 0 5 := ⟨_, rfl⟩
    have hge : s.size ≤ cp := by rw [hcp]; exact grownCap_ge w s.size 0 5
    have hgm : cp ≤ maxLen := by rw [hcp]; exact grownCap_le_maxLen w s.size 0 5 (by unfold maxLen; omega)
    rw [← hcp] at hrun
    obtain ⟨w1, hw1⟩ : ∃ w1, w1 = w.drew.alloc (.cells (bytesRow s cp) 5 ((bytesRow s cp).size, (bytesRow s cp).size + 1)) := ⟨_, rfl⟩
    rw [← hw1] at hrun
    have hB : Below w.heap.size w w1 := by rw [hw1]; exact ((Below.refl w.heap.size w).drew).alloc (Nat.le_refl _) _
    have hS : Sl w1 (some ⟨w.heap.size, 0, none⟩) cp (bts s) := by
      have hnl := bts_len s
      refine ⟨.inr ⟨w.heap.size, 0, rfl, fun j hj => ?_⟩, by rw [hnl]; exact hge, hgm, (fun h => by cases h), bts_bs s⟩
      have hj' : j < s.data.size := by rw [hnl] at hj; exact hj
      have hc : w1.cell? ⟨w.heap.size, j, none⟩ = (bytesRow s cp)[j]? := by rw [hw1]; exact cell_of_row _ _ j _ 5 _ (heap_alloc_new w.drew _)
      rw [Nat.zero_add, hc, bytesRow_at s cp j hj']
      have e : (bts s).getD j 0 = (s.data[j]).toNat := by
        rw [bts, List.getD_eq_getElem?_getD, List.getElem?_map, Array.getElem?_toList, Array.getElem?_eq_getElem hj']; rfl
      rw [e]
    exact ⟨(w1, cp), hrun, hB, hS⟩
  exact ⟨fun W => (Classical.choose (hX W)).1, fun W => (Classical.choose (hX W)).2, fun W => (Classical.choose_spec (hX W)).1, fun W => (Classical.choose_spec (hX W)).2.1, fun W => (Classical.choose_spec (hX W)).2.2⟩
/-- What stands from a place on. -/
theorem Sl.from_ {w : World} {ao : Option Addr} {c : Nat} {xs : List Nat} (h : Sl w ao c xs) (k : Nat) (hk : k ≤ xs.length) : Sl w (cutA ao c k) (c - k) (xs.drop k) := by
  have := h.cut' k (xs.length - k) (by omega)
  rwa [List.take_of_length_le (by rw [List.length_drop]; omega)] at this
/-- What Name answers. -/
def nameP (xs : List Nat) : Bool := if (nx xs).2 = 0 ∨ begP (nx xs).1 = false then false else (alA goP (xs.drop (nx xs).2)).2

set_option maxHeartbeats 3200000 in
theorem Name_any (s : ByteArray) (w : World) (hl : s.size ≤ 1000000) (hT : TU w) :
    Calls Tryd.prog 26 #[.string s] w fun e w' => e = .returned (.bool (nameP (bts s))) ∧ Below w.heap.size w w' := by
  obtain ⟨NEW, CAP, hcvt, hnb, hns⟩ := text_run s hl
  have hc0 := hcvt w
  have hb0 := hnb w
  have hs0 := hns w
  have hbl := bts_len s
  obtain ⟨W0, hW0⟩ : ∃ W0, W0 = NEW w := ⟨_, rfl⟩
  obtain ⟨C0, hC0⟩ : ∃ C0, C0 = CAP w := ⟨_, rfl⟩
  obtain ⟨xs, hxs⟩ : ∃ xs, xs = bts s := ⟨_, rfl⟩
  obtain ⟨Z, hZ⟩ : ∃ Z, Z = s.size := ⟨_, rfl⟩
  rw [← hW0, ← hC0, ← hZ] at hc0
  rw [← hW0] at hb0
  rw [← hW0, ← hC0, ← hxs] at hs0
  rw [← hxs, ← hZ] at hbl
  rw [← hxs]
  rw [← hZ] at hl
  subst hbl
  have HB0 := Lib.hid hb0
  have HS0 := Lib.hid hs0
  have HT0 := Lib.hid (hT.grow hb0)
  have HN4 := Lib.hid (nx_le4 xs hs0.bs)
  obtain ⟨R, hR⟩ : ∃ R, R = nameP xs := ⟨_, rfl⟩
  have HR := Lib.hid hR
  rw [← hR]
  have K1 := Next_any _ _ xs 0 W0 hs0 HT0.out
  rw [show nxF xs 0 = nx xs from (nxF_nat xs 0).trans (by rw [List.drop_zero])] at K1
  have K2 := fun (W : World) (hW : Below W0.heap.size W0 W) (k : Nat) (hk : k ≤ xs.length) => allAre_Goes _ _ (xs.drop k) W ((hs0.from_ k hk).below hW) (by rw [List.length_drop]; omega) (HT0.out.grow hW)
  have K2 := Lib.hid K2
  have hcut := fun (k : Nat) (hk : k ≤ xs.length) (W : World) => slice_l (some ⟨w.heap.size, 0, none⟩) xs.length C0 k hk W
  obtain ⟨v, n, hvn⟩ : ∃ v n, nx xs = (v, n) := ⟨_, _, rfl⟩
  unfold nameP at HR
  rw [hvn] at HR HN4 K1
  simp only at HR HN4 K1
  have K1 := Lib.hid K1
  clear hb0 hs0 hT hR hvn hcvt hnb hns hW0 hC0 hxs hZ
  by_cases c1 : n = 0
  · subst c1
    have HR2 : Hid (R = false) := Lib.hid (by rw [HR.out, if_pos (.inl rfl)])
    clear hcut
    go_enter Tryd.func26, Tryd.ntmps26
    go_wp2_with (go_at_call 10; (with_reducible refine K1.out.mono ?_); rintro e w1 ⟨rfl, hb1⟩; have HB1 := Lib.hid (HB0.out.trans (hb1.mono HB0.out.size)); clear hb1)
    go_ret
    exact ⟨by rw [HR2.out]; rfl, HB1.out⟩
  have c1' : ¬ (n : Int) = 0 := by omega
  obtain ⟨z, hz⟩ : ∃ z, z = begP v := ⟨_, rfl⟩
  have HG := Lib.hid fun W => Begins_any (v : Int) W
  rw [show wth beginsL (v : Int) = z from hz.symm] at HG
  rw [← hz] at HR
  clear hz
  cases z with
  | false =>
    have HR2 : Hid (R = false) := Lib.hid (by rw [HR.out, if_pos (.inr rfl)])
    clear c1 hcut
    go_enter Tryd.func26, Tryd.ntmps26
    go_wp2_with (first
      | (go_at_call 10; (with_reducible refine K1.out.mono ?_); rintro e w1 ⟨rfl, hb1⟩; have HB1 := Lib.hid (HB0.out.trans (hb1.mono HB0.out.size)); clear hb1)
      | (go_at_call 22; (with_reducible refine (HG.out w1).mono ?_); rintro e w2 ⟨rfl, hb2⟩; have HB2 := Lib.hid (HB1.out.trans (hb2.mono HB1.out.size)); clear hb2))
    go_ret
    exact ⟨by rw [HR2.out]; rfl, HB2.out⟩
  | true =>
    have hnl : n ≤ xs.length := HN4.out.2.1
    have HR2 : Hid (R = (alA goP (xs.drop n)).2) := Lib.hid (by rw [HR.out, if_neg (by simp [c1])])
    have hcn := hcut n hnl
    have K3 := Lib.hid fun (W : World) (hW : Below W0.heap.size W0 W) => K2.out W hW n hnl
    rw [List.length_drop] at K3
    generalize alA goP (xs.drop n) = T at K3 HR2
    obtain ⟨p, q⟩ := T
    generalize cutA (some ⟨w.heap.size, 0, none⟩) C0 n = CO at hcn K3
    clear c1 hcut K2
    go_enter Tryd.func26, Tryd.ntmps26
    go_wp2_with (first
      | (go_at_call 10; (with_reducible refine K1.out.mono ?_); rintro e w1 ⟨rfl, hb1⟩; have HB1 := Lib.hid hb1; clear hb1)
      | (go_at_call 22; (with_reducible refine (HG.out w1).mono ?_); rintro e w2 ⟨rfl, hb2⟩; have HB2 := Lib.hid (HB1.out.trans (hb2.mono HB1.out.size)); clear hb2)
      | (go_at_call 32; (with_reducible refine (K3.out w2 HB2.out).mono ?_); rintro e w3 ⟨rfl, hb3⟩; have HB3 := Lib.hid (HB0.out.trans ((HB2.out.trans (hb3.mono HB2.out.size)).mono HB0.out.size)); clear hb3))
    go_ret
    exact ⟨by rw [HR2.out]; rfl, HB3.out⟩
end Go.Proofs.YtmnkdnlmpgmdgaaDoor
