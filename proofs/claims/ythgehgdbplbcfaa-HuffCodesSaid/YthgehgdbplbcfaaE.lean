
/-
  Contracts of bytes.Clone: a copy of the call's own.
-/
import Derived.Test.YthgehgdbplbcfaaD
namespace Go.Proofs.Ythgehgdbplbcfaa
open Go.RowKit

theorem Try.info5 : (Try.prog.info? 5).map (fun i => (i.zero, i.size, i.bytes)) = some (some (.int .u8 0), 1, 1) := by kernel_rfl

def u8s (l : List Nat) : List Value := l.map fun x : Nat => Value.int .u8 (x : Int)

theorem u8s_len (l : List Nat) : (u8s l).length = l.length := by simp [u8s]
theorem u8s_one (l : List Nat) : ∀ u ∈ u8s l, u.oneCell' = true := by
  intro u hu
  obtain ⟨_, _, rfl⟩ := List.mem_map.1 hu
  rfl

/-- A slice value whose elements are the bytes xs. -/
def BySl (w : World) (v : Value) (xs : List Nat) : Prop :=
  (v = .slice none 0 0 ∧ xs = []) ∨ ∃ ad c, v = .slice (some ad) xs.length c ∧ xs.length ≤ c ∧ ∀ j u, (u8s xs)[j]? = some u → w.cell? (ad.add j) = some u

/-- A new copy of bytes in a block of its own; nothing else has changed. -/
def Made (w : World) (base : Nat) (xs : List Nat) (e : Ending) (w' : World) : Prop :=
  ∃ a c, e = .returned (.slice a xs.length c) ∧ w'.ownsRow base 5 1 (.slice a xs.length c) xs.length (u8s xs) ∧ (∀ k, (Value.slice a xs.length c).ownBlock = some k → w.heap.size ≤ k) ∧ Touch (fun _ => False) w w'

theorem own_low {w' : World} {base : Nat} {e : TypeId} {size : Nat} {v : Value} {n : Nat} {xs : List Value} (h : w'.ownsRow base e size v n xs) : ∀ k, v.ownBlock = some k → base ≤ k := fun k hk => (h.lt k hk).1

theorem own_shape {w : World} {base : Nat} {e : TypeId} {size : Nat} {v : Value} {n : Nat} {xs : List Value} (h : w.ownsRow base e size v n xs) : ∃ a c, v = .slice a n c := by
  rcases h.2 with ⟨rfl, rfl⟩ | ⟨g, cap, cur, rfl, _⟩
  · exact ⟨_, _, rfl⟩
  · exact ⟨_, _, rfl⟩

theorem own_empty (w : World) : (w.alloc (.cells #[] 5)).ownsRow w.heap.size 5 1 (.slice (some ⟨w.heap.size, 0, none⟩) 0 0) 0 [] :=
  World.ownsRow_made w #[] 0 (Nat.le_refl _) (Nat.zero_le _) rfl

theorem own_base {w : World} {base base' : Nat} {e : TypeId} {size : Nat} {v : Value} {n : Nat} {xs : List Value} (h : w.ownsRow base e size v n xs) (hb : base' ≤ base) : w.ownsRow base' e size v n xs := by
  refine ⟨h.1, ?_⟩
  rcases h.2 with h2 | ⟨g, cap, cur, hv, hg, r⟩
  · exact .inl h2
  · exact .inr ⟨g, cap, cur, hv, Nat.le_trans hb hg, r⟩

set_option maxHeartbeats 400000 in
theorem clone_some (ad : Addr) (c : Nat) (xs : List Nat) (w : World) (hl : xs.length ≤ 1000000000)
    (hc : ∀ j u, (u8s xs)[j]? = some u → w.cell? (ad.add j) = some u) :
    Calls Try.prog 33 #[.slice (some ad) xs.length c] w (Made w w.heap.size xs) := by
  obtain ⟨i0, hi, hz0, hz1, hz2⟩ := info_parts Try.info5
  have hnil := fun W => Lib.run_eql_slice_nil (P := Try.prog) W 38 5 (some ad) xs.length c 0 0 Try.underlying38
  have HC := Lib.hid hc
  clear hc
  go_enter Try.func33, Try.ntmps33
  go_wp2_with (at_builtin; refine wpList_append_own _ rfl (.tmp 5) (.tmp 6) 38 rfl w.heap.size 5 i0 (.int .u8 0) 1 1 Try.underlying38 hi hz0 hz1 hz2 rfl (by decide) (.slice (some ⟨w.heap.size, 0, none⟩) 0 0) 0 [] rfl (own_empty w) ad xs.length c (u8s xs) rfl (by simp [u8s_len]) ?c1 (u8s_one xs) (by unfold maxLen; omega) (by omega) (by simp) ?c2)
  case c1 =>
    intro j u hu
    have h := HC.out j u hu
    have hlt := World.block_lt_of_cell? w _ h
    rw [World.cell?_alloc_lt _ _ _ hlt]
    exact h
  case c2 =>
    intro v' w' hown hgrow _
    have hown : w'.ownsRow w.heap.size 5 1 v' xs.length (u8s xs) := by simpa using hown
    obtain ⟨a, c', rfl⟩ := own_shape hown
    have HO := Lib.hid hown
    have HG := Lib.hid hgrow
    clear hown hgrow
    go_wp2
    go_ret
    refine ⟨a, c', rfl, HO.out, fun k hk => (HO.out.lt k hk).1, ((Touch.refl _ w).alloc _).grown HG.out fun k hk => ?_⟩
    cases hk
    exact .inr (Nat.le_refl _)

theorem clone_nil (w : World) :
    Calls Try.prog 33 #[.slice none 0 0] w (Made w w.heap.size []) := by
  have hnil := fun W => Lib.run_eql_slice_nil (P := Try.prog) W 38 5 none 0 0 0 0 Try.underlying38
  go_enter Try.func33, Try.ntmps33
  go_wp2
  go_ret
  exact ⟨none, 0, rfl, World.ownsRow_nil _ _ _ _, fun k hk => by simp [Value.ownBlock] at hk, Touch.refl _ _⟩

end Go.Proofs.Ythgehgdbplbcfaa
