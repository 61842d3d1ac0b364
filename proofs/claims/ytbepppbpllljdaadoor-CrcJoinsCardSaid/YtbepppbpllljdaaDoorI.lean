/-
  A digest: new, written, asked.
-/
import Derived.Test.YtbepppbpllljdaaDoorH
namespace Go.Proofs.YtbepppbpllljdaaDoor
open Go.RowKit CrcPlain

/-- A digest's block. -/
def Dg (w : World) (p : Nat) (s : BitVec 32) (n : Nat) : Prop := Blk w p 45 #[.int .u32 (s.toNat : Int), .int .i64 n]

theorem Src.touch {w w' : World} {ao : Option Addr} {xs : List Nat} {S : Nat → Prop} (h : Src w ao xs) (ht : Touch S w w') (hS : ∀ b off, ao = some ⟨b, off, none⟩ → ¬ S b) : Src w' ao xs := by
  rcases h with h | ⟨b, off, rfl, hc⟩
  · exact .inl h
  · exact .inr ⟨b, off, rfl, fun j hj => by
      have h1 := hc j hj
      have hlt := World.block_lt_of_cell? w _ h1
      exact (World.cell?_of_block (w := w) (ht.block b hlt (hS b off rfl))).trans h1⟩

theorem new_any (w : World) :
    Calls Tryd.prog 14 #[] w fun e w' => e = .returned (.pointer (some ⟨w.heap.size, 0, none⟩)) ∧ Dg w' w.heap.size 0#32 0 ∧ Touch (fun _ => False) w w' ∧ w'.heap.size = w.heap.size + 1 := by
  go_enter Tryd.func14, Tryd.ntmps14
  go_wp2
  go_ret
  exact ⟨rfl, Blk.made w 45 _, (Touch.refl _ w).alloc _, by simp⟩

theorem len_any (p : Nat) (s : BitVec 32) (n : Nat) (w : World) (h : Dg w p s n) :
    Calls Tryd.prog 17 #[.pointer (some ⟨p, 0, none⟩)] w fun e w' => e = .returned (.int .i64 n) ∧ w = w' := by
  have h0 := Blk.cell h 0
  have h1 := Blk.cell h 1
  simp at h0 h1
  clear h
  go_enter Tryd.func17, Tryd.ntmps17
  go_wp2
  go_ret
  exact ⟨rfl, rfl⟩

theorem dsum_any (p : Nat) (s : BitVec 32) (n : Nat) (w : World) (h : Dg w p s n) :
    Calls Tryd.prog 18 #[.pointer (some ⟨p, 0, none⟩)] w fun e w' => e = .returned (.int .u32 (s.toNat : Int)) ∧ w = w' := by
  have h0 := Blk.cell h 0
  have h1 := Blk.cell h 1
  simp at h0 h1
  clear h
  go_enter Tryd.func18, Tryd.ntmps18
  go_wp2
  go_ret
  exact ⟨rfl, rfl⟩

set_option maxHeartbeats 400000 in
theorem write_any (p : Nat) (s : BitVec 32) (n : Nat) (ao : Option Addr) (cap : Nat) (xs : List Nat) (w : World) (h : Dg w p s n) (hn : n ≤ 1000000000000000) (hl : xs.length ≤ 1000000000000000) (hb : Bs xs) (hs : Src w ao xs) :
    Calls Tryd.prog 16 #[.pointer (some ⟨p, 0, none⟩), .slice ao xs.length cap] w fun e w' => e = .returned (.tuple #[]) ∧ Dg w' p (updN s xs) (n + xs.length) ∧ Touch (fun k => k = p) w w' := by
  have HU := Lib.hid (update_any s ao cap xs w hl hb hs)
  have HD := Lib.hid h
  have h0 := Blk.cell h 0
  have f0 := Blk.free h 0
  simp at h0
  obtain ⟨y, hy⟩ : ∃ y, y = updN s xs := ⟨_, rfl⟩
  rw [← hy] at HU ⊢
  clear h hb hs hy
  go_enter Tryd.func16, Tryd.ntmps16
  go_wp2_with (go_at_call 11; refine HU.out.mono ?_; rintro e w1 ⟨rfl, hb1⟩; have HB1 := Lib.hid hb1; have HD1 := Lib.hid (Blk.below HD.out hb1); have g0 := Blk.cell HD1.out 0; have g1 := Blk.cell HD1.out 1; have q0 := Blk.free HD1.out 0; have q1 := Blk.free HD1.out 1; simp at g0 g1; clear hb1 h0 f0)
  go_end0
  refine ⟨rfl, ?_, ?_⟩
  · have := (Blk.setCell HD1.out 0 (.int .u32 (y.toNat : Int))).setCell 1 (.int .i64 ((n : Int) + xs.length))
    simpa [Dg] using this
  · exact (((Touch.of_below HB1.out : Touch (fun k => k = p) w w1).setCell _ _ (.inl rfl)).setCell _ _ (.inl rfl))
end Go.Proofs.YtbepppbpllljdaaDoor
