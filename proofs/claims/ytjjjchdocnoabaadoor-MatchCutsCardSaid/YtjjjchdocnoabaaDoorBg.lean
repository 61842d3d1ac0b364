
/-
  Contracts of a reader's Bytes.
-/
import Derived.Test.YtjjjchdocnoabaaDoorF
namespace Go.Proofs.YtjjjchdocnoabaaDoor
open Go.RowKit

theorem cut_own {w : World} {base g cap : Nat} {bs : List Nat} (h : w.ownsRow base 5 1 (.slice (some ⟨g, 0, none⟩) bs.length cap) bs.length (u8s bs)) (f n : Nat) (hf : f + n ≤ bs.length) (c : Nat) (hc : n ≤ c) :
    BySl w (.slice (some ⟨g, f, none⟩) n c) ((bs.drop f).take n) := by
  have hl : ((bs.drop f).take n).length = n := by rw [List.length_take, List.length_drop]; omega
  refine .inr ⟨⟨g, f, none⟩, c, by rw [hl], by omega, fun j u hu => ?_⟩
  have hj : j < n := by
    have := (List.getElem?_eq_some_iff.1 hu).1
    rw [u8s_len, hl] at this; exact this
  rw [Addr.add_lit, row_cell h (f + j) (by omega)]
  rw [← hu]
  simp [u8s, byt, List.getD, hj, show f + j < bs.length by omega]

end Go.Proofs.YtjjjchdocnoabaaDoor
