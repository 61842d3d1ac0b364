
/-
  Contracts of NewReader, NewWriter, Out and SameBytes.
-/
import Derived.Test.YthgehgdbplbcfaaE
import Derived.OpenShut
namespace Go.Proofs.Ythgehgdbplbcfaa
open Go.RowKit

theorem BySl.at {w : World} {v : Value} {xs : List Nat} (h : BySl w v xs) (hp : 0 < xs.length) :
    ∃ b off c, v = .slice (some ⟨b, off, none⟩) xs.length c ∧ xs.length ≤ c ∧ ∀ j, j < xs.length → w.cell? ⟨b, off + j, none⟩ = some (.int .u8 (byt xs j)) := by
  rcases h with ⟨_, rfl⟩ | ⟨ad, c, rfl, hc, h⟩
  · simp at hp
  · have h' : ∀ i, i < (xs.map fun x : Nat => (x : Int)).length → w.cell? (ad.add i) = some (.int .u8 ((xs.map fun x : Nat => (x : Int)).getD i 0)) := by
      intro i hi
      have hi' : i < xs.length := by simpa using hi
      refine h i _ ?_
      simp [u8s, List.getD, hi']
    obtain ⟨b, off, rfl, h2⟩ := ints_at h' (by simpa using hp)
    refine ⟨b, off, c, rfl, hc, fun j hj => ?_⟩
    rw [h2 j (by simpa using hj)]
    simp [byt, List.getD, hj]

theorem BySl.own {w : World} {base : Nat} {v : Value} {xs : List Nat} (h : w.ownsRow base 5 1 v xs.length (u8s xs)) : BySl w v xs := by
  rcases h.2 with ⟨rfl, hn⟩ | ⟨g, cap, cur, rfl, hb, hh, hnc, r⟩
  · exact .inl ⟨rfl, List.eq_nil_of_length_eq_zero hn⟩
  · exact .inr ⟨⟨g, 0, none⟩, cap, rfl, hnc, h.cells (by simp [Value.ownBlock])⟩

theorem BySl.touch {S : Nat → Prop} {w w' : World} {v : Value} {xs : List Nat} (h : BySl w v xs) (ht : Touch S w w') (hs : ∀ k, v.ownBlock = some k → ¬ S k) : BySl w' v xs := by
  rcases h with h | ⟨ad, c, rfl, hc, h⟩
  · exact .inl h
  · refine .inr ⟨ad, c, rfl, hc, fun j u hu => ?_⟩
    have h1 := h j u hu
    have hlt := World.block_lt_of_cell? w _ h1
    have hb : (ad.add j).block = ad.block := by unfold Addr.add; split <;> rfl
    rw [World.cell?_of_block (w := w) (ht.block _ hlt (by rw [hb]; exact hs _ (by simp [Value.ownBlock])))]
    exact h1

theorem BySl.below {B : Nat} {w w' : World} {v : Value} {xs : List Nat} (h : BySl w v xs) (ht : Below B w w') (hs : ∀ k, v.ownBlock = some k → k < B) : BySl w' v xs := by
  rcases h with h | ⟨ad, c, rfl, hc, h⟩
  · exact .inl h
  · refine .inr ⟨ad, c, rfl, hc, fun j u hu => ?_⟩
    have h1 := h j u hu
    have hb : (ad.add j).block = ad.block := by unfold Addr.add; split <;> rfl
    rw [World.cell?_of_block (w := w) (ht.block _ (by rw [hb]; exact hs _ (by simp [Value.ownBlock])))]
    exact h1

theorem clone_any {w : World} {v : Value} {xs : List Nat} (h : BySl w v xs) (hl : xs.length ≤ 1000000000) : Calls Try.prog 33 #[v] w (Made w w.heap.size xs) := by
  rcases h with ⟨rfl, rfl⟩ | ⟨ad, c, rfl, hc, h⟩
  · exact clone_nil w
  · exact clone_some ad c xs w hl h

/-- A new object; nothing else has changed. -/
def MadeOb (w : World) (base t : Nat) (bs : List Nat) (n : Nat) (e : Ending) (w' : World) : Prop :=
  ∃ p g, e = .returned (.pointer (some ⟨p, 0, none⟩)) ∧ Ob w' base t p g bs n ∧ Touch (fun _ => False) w w'

theorem Ob.made {w : World} {base t : Nat} {sv : Value} {bs : List Nat} (n : Nat) (ht : t ≠ 5) (hb : Bs bs) (hown : w.ownsRow base 5 1 sv bs.length (u8s bs)) (hbase : base ≤ w.heap.size) {x : Int} (hx : x = (n : Int)) :
    Ob (w.alloc (.cells #[sv, .int .i64 x] t)) base t w.heap.size sv.ownBlock bs n := by
  subst hx
  exact ⟨⟨sv, heap_alloc_new w _, rfl, hown.alloc _⟩, hbase, hb, ht⟩

theorem newReader_any {w : World} {v : Value} {xs : List Nat} (h : BySl w v xs) (hb : Bs xs) (hl : xs.length ≤ 1000000000) : Calls Try.prog 19 #[v] w (MadeOb w w.heap.size 74 xs 0) := by
  have H := Lib.hid h
  have HB := Lib.hid hb
  clear h hb
  go_enter Try.func19, Try.ntmps19
  go_wp2_with (go_at_call 33; refine (clone_any H.out hl).mono ?_; rintro e w' ⟨a, c, rfl, hown, hlow, ht⟩)
  have hsz := ht.size
  go_ret
  exact ⟨w'.heap.size, _, rfl, Ob.made 0 (by decide) HB.out hown hsz rfl, ht.alloc _⟩

theorem newWriter_any (w : World) : Calls Try.prog 24 #[] w (MadeOb w w.heap.size 79 [] 0) := by
  go_enter Try.func24, Try.ntmps24
  go_wp2
  go_ret
  exact ⟨w.heap.size, none, rfl, Ob.made (sv := .slice none 0 0) 0 (by decide) Bs.nil (World.ownsRow_nil _ _ _ _) (Nat.le_refl _) rfl, (Touch.refl _ w).alloc _⟩

theorem out_walk (p : Nat) (sv : Value) (xs : List Nat) (w : World) (h0 : w.cell? ⟨p, 0, none⟩ = some sv) (h : BySl w sv xs) (hl : xs.length ≤ 1000000000) : Calls Try.prog 26 #[.pointer (some ⟨p, 0, none⟩)] w (Made w w.heap.size xs) := by
  have H := Lib.hid h
  clear h
  go_enter Try.func26, Try.ntmps26
  go_wp2_with (go_at_call 33; refine (clone_any H.out hl).mono ?_; rintro e w' ⟨a, c, rfl, hown, hlow, ht⟩)
  go_ret
  exact ⟨a, c, rfl, hown, hlow, ht⟩

theorem Ob.wout {w : World} {base t p : Nat} {g : Option Nat} {bs : List Nat} {n : Nat} (h : Ob w base t p g bs n) (hl : bs.length ≤ 1000000000) : Calls Try.prog 26 #[.pointer (some ⟨p, 0, none⟩)] w (Made w w.heap.size bs) := by
  obtain ⟨sv, h1, h2, h3⟩ := h.blk
  exact out_walk p sv bs w (two_cell h1).1 (BySl.own h3) hl

/-! ### SameBytes -/
end Go.Proofs.Ythgehgdbplbcfaa
