/-
  Small facts on the arguments of BitsReads.
-/
import Derived.Test.YtjbjjnfhklpffaaV
namespace Go.Proofs.Ytjbjjnfhklpffaa
open Go.RowKit

theorem arg_bysl {w : World} {b off c : Nat} {bs : List Nat} (hcb : bs.length ≤ c) (hc : ∀ j, j < bs.length → w.cell? ⟨b, off + j, none⟩ = some (.int .u8 (byt bs j))) : BySl w (.slice (some ⟨b, off, none⟩) bs.length c) bs := by
  refine .inr ⟨⟨b, off, none⟩, c, rfl, hcb, fun j u hu => ?_⟩
  have hj : j < bs.length := by
    have := (List.getElem?_eq_some_iff.1 hu).1
    rwa [u8s_len] at this
  rw [Addr.add_lit, hc j hj, ← hu]
  simp [u8s, byt, List.getD, hj]

theorem cut_zero {w : World} {b off N : Nat} {xs : List Nat} (h : N = 0) (hx : xs.length = N) : BySl w (.slice (some ⟨b, off, none⟩) N 0) xs := by
  subst h
  have : xs = [] := List.eq_nil_of_length_eq_zero hx
  subst this
  exact .inr ⟨⟨b, off, none⟩, 0, by simp, by simp, fun j u hu => by simp [u8s] at hu⟩

theorem cut_arg {w : World} {b off fr N c : Nat} {bs xs : List Nat} (hc : ∀ j, j < bs.length → w.cell? ⟨b, off + j, none⟩ = some (.int .u8 (byt bs j))) (hl : fr + N ≤ bs.length) (hcc : N ≤ c) (hx : (bs.drop fr).take N = xs) : BySl w (.slice (some ⟨b, off + fr, none⟩) N c) xs := by
  subst hx
  have hxl : ((bs.drop fr).take N).length = N := by rw [List.length_take, List.length_drop]; omega
  refine .inr ⟨⟨b, off + fr, none⟩, c, by rw [hxl], by omega, fun j u hu => ?_⟩
  have hj : j < N := by
    have := (List.getElem?_eq_some_iff.1 hu).1
    rwa [u8s_len, hxl] at this
  rw [Addr.add_lit, Nat.add_assoc, hc (fr + j) (by omega), ← hu]
  simp [u8s, byt, List.getD, hj, show fr + j < bs.length by omega]

theorem CallAt.touch {B : Nat} {w w' : World} {A : Addr} {c : CD} (h : CallAt w A c) (ht : Touch (U B) w w') (hB : w.heap.size ≤ B) : CallAt w' A c := by
  have hcell : ∀ {A : Addr} {u : Value}, w.cell? A = some u → w'.cell? A = some u := fun {A u} h => by
    have hlt := World.block_lt_of_cell? w _ h
    rw [World.cell?_of_block (w := w) (ht.block A.block hlt (by unfold U; omega))]
    exact h
  refine ⟨hcell h.c0, hcell h.c1, hcell h.c2, hcell h.c3, h.hv, ?_, h.hb⟩
  rcases h.hs with h1 | ⟨ad, c', e1, e2, e3⟩
  · exact .inl h1
  · exact .inr ⟨ad, c', e1, e2, fun j u hu => hcell (e3 j u hu)⟩

theorem CallsV.touch {w w' : World} {b off len : Nat} {f : Nat → CD} (h : CallsV w (some ⟨b, off, none⟩) len f) (_hb : len = 0 ∨ b < w.heap.size) (ht : Touch (U w.heap.size) w w') : CallsV w' (some ⟨b, off, none⟩) len f := by
  rcases h with h | ⟨b', off', e, hb, h⟩
  · exact .inl h
  · exact .inr ⟨b', off', e, Nat.lt_of_lt_of_le hb ht.size, fun i hi => (h i hi).touch ht (Nat.le_refl _)⟩

theorem CallsV.get {w : World} {b off len : Nat} {f : Nat → CD} (h : CallsV w (some ⟨b, off, none⟩) len f) (_hb : len = 0 ∨ b < w.heap.size) (i : Nat) (hi : i < len) : CallAt w ⟨b, off + i * 4, none⟩ (f i) ∧ b < w.heap.size := by
  rcases h with h | ⟨b', off', e, hb, h⟩
  · omega
  · simp at e
    obtain ⟨rfl, rfl⟩ := e
    exact ⟨h i hi, hb⟩


end Go.Proofs.Ytjbjjnfhklpffaa
