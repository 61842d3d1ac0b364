/-
  Reading fields, as a plain function; Read.
-/
import Derived.Test.YtflabomkgkojlaaK
namespace Go.Proofs.Ytflabomkgkojlaa
open Go.RowKit

def win (xs : List Nat) (at_ n : Nat) : List Nat := (xs.drop at_).take n
def fld (k : Int) (xs : List Nat) (at_ n : Nat) : Fd := if isN k then ⟨k, num (win xs at_ n), []⟩ else ⟨k, 0, win xs at_ n⟩
def stp (xs : List Nat) (back : Nat) (k : Int) (at_ : Nat) (l : List Fd) : Option (Fd × Nat) :=
  let r := szf k ((xs.length : Int) - at_) l back
  if r.2 = true ∧ at_ + r.1.toNat ≤ xs.length then some (fld k xs at_ r.1.toNat, at_ + r.1.toNat) else none
def run (xs : List Nat) (back : Nat) : List Int → Nat → List Fd → Option (List Fd × Nat)
  | [], at_, l => some (l, at_)
  | k :: ks, at_, l => match stp xs back k at_ l with
    | none => none
    | some (f, at') => run xs back ks at' (l ++ [f])

theorem szf_nonneg (k left : Int) (l : List Fd) (back : Nat) (hl : 0 ≤ left) : 0 ≤ (szf k left l back).1 := by
  unfold szf
  split
  · simp
  · split
    · simp
    · split
      · split
        · simp
        · split <;> simp
      · split
        · exact hl
        · simp
theorem run_drop {xs : List Nat} {back : Nat} {ks : List Int} {i at_ : Nat} {l : List Fd} (hi : i < ks.length) :
    run xs back (ks.drop i) at_ l = match stp xs back (ks.getD i 0) at_ l with
      | none => none
      | some (f, at') => run xs back (ks.drop (i + 1)) at' (l ++ [f]) := by
  rw [List.drop_eq_getElem_cons hi]
  simp [run, List.getD, hi]
theorem run_done {xs : List Nat} {back : Nat} {ks : List Int} {i at_ : Nat} {l : List Fd} (hi : ks.length ≤ i) : run xs back (ks.drop i) at_ l = some (l, at_) := by
  rw [List.drop_of_length_le hi]; rfl

def ReadPost (o : Option (List Fd × Nat)) (w : World) (e : Ending) (w' : World) : Prop :=
  match o with
  | none => e = .returned (.tuple #[.slice none 0 0, .int .i64 0, .bool false]) ∧ Below w.heap.size w w'
  | some (fds, en) => ∃ (lo : Option Addr) (lc : Nat) (l : List Fe), l.map (·.f) = fds ∧ e = .returned (.tuple #[.slice lo l.length lc, .int .i64 (en : Nat), .bool true]) ∧ Fs w' lo l ∧ Below w.heap.size w w'

theorem cells_fe (w : World) (e : TypeId) (x : Fe) : CellsAt (w.alloc (.cells #[.int .i64 x.f.k, .int .i64 (x.f.n : Nat), .slice x.ao x.f.b.length x.c] e)) (.slice (some ⟨w.heap.size, 0, none⟩) 1 1) 1 x.cells := by
  refine .inr ⟨_, _, rfl, fun j u hu => ?_⟩
  rw [Addr.add_lit, World.cell?_alloc_at _ _ _ _ rfl]
  simpa [Fe.cells] using hu
theorem fe_one (x : Fe) : ∀ u ∈ x.cells, u.oneCell' = true := by
  intro u hu
  simp [Fe.cells] at hu
  rcases hu with rfl | rfl | rfl <;> rfl
theorem fe_len (x : Fe) : x.cells.length = 1 * 3 := rfl

/-- Before the first field. -/
theorem read_out (ao : Option Addr) (c L : Nat) (at_ : Int) (ka : Option Addr) (kn kc : Nat) (h : at_ < 0 ∨ (L : Int) < at_) (w : World) :
    Calls Try.prog 16 #[.slice ao L c, .int .i64 at_, .slice ka kn kc] w fun e w' => e = .returned (.tuple #[.slice none 0 0, .int .i64 0, .bool false]) ∧ w = w' := by
  by_cases h1 : at_ < 0
  · go_enter Try.func16, Try.ntmps16
    go_wp2
    refine bodyPost_ret (v := .tuple #[.slice none 0 0, .int .i64 0, .bool false]) (by simp [results, Try.results16, go_sem]) rfl ⟨rfl, rfl⟩
  · have h2 : (L : Int) < at_ := by omega
    go_enter Try.func16, Try.ntmps16
    go_wp2
    refine bodyPost_ret (v := .tuple #[.slice none 0 0, .int .i64 0, .bool false]) (by simp [results, Try.results16, go_sem]) rfl ⟨rfl, rfl⟩
end Go.Proofs.Ytflabomkgkojlaa
