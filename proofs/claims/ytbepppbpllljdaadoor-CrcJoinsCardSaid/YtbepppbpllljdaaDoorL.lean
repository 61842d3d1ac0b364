/-
  A slice that the law makes; a slice that came in, opened; the calls of CrcSums.
-/
import Derived.Test.YtbepppbpllljdaaDoorK
namespace Go.Proofs.YtbepppbpllljdaaDoor
open Go.ChangeShapes Go.WideShapes Go.RowKit CrcPlain

def zrow (n : Nat) : Array Value := Array.replicate n (.int .u8 0)

theorem Tryd.info5 : (Tryd.prog.info? 5).map (fun i => (i.zero, i.size, i.bytes)) = some (some (.int .u8 0), 1, 1) := by kernel_rfl

theorem make22 (n : Nat) (hn : n ≤ 100000) (W : World) : (Instr.makeSlice 22 (.int .i64 (n : Int)) (.int .i64 (n : Int))).run Tryd.prog W = .ok (.slice (some ⟨W.heap.size, 0, none⟩) n n) (W.alloc (.cells (zrow n) 5)) := by
  obtain ⟨i0, hi, hz0, hz1, hz2⟩ := info_parts Tryd.info5
  have h := run_make (P := Tryd.prog) W 22 5 i0 (.int .u8 0) Tryd.underlying22 hi hz0 .i64 .i64 n n (by omega) (Int.le_refl _) (by rw [hz2]; omega) (by omega)
  rw [h]
  have e : madeCells (Value.int .u8 0).cells ((n : Int).toNat * i0.size) = zrow n := by
    apply Array.toList_inj.1
    rw [hz1, Int.toNat_natCast, Nat.mul_one, show (Value.int .u8 0).cells = #[.int .u8 0] from rfl, toList_madeCells_one]
    simp [zrow]
  rw [e, Int.toNat_natCast]
theorem make22_0 (W : World) : (Instr.makeSlice 22 (.int .i64 0) (.int .i64 0)).run Tryd.prog W = .ok (.slice (some ⟨W.heap.size, 0, none⟩) 0 0) (W.alloc (.cells (zrow 0) 5)) := make22 0 (by omega) W

theorem zrow_src (n : Nat) (W : World) : Src (W.alloc (.cells (zrow n) 5)) (some ⟨W.heap.size, 0, none⟩) (List.replicate n 0) := by
  refine .inr ⟨_, _, rfl, fun j hj => ?_⟩
  rw [List.length_replicate] at hj
  rw [Nat.zero_add, World.cell?_alloc_at _ _ _ _ rfl]
  simp [zrow, hj, List.getD]
theorem zrow_bs (n : Nat) : Bs (List.replicate n 0) := fun x h => by rw [(List.mem_replicate.1 h).2]; omega
theorem updN_zeros (s : BitVec 32) (n : Nat) : updN s (List.replicate n 0) = zeros s n := by
  unfold updN zeros bv
  rw [List.map_replicate, feed_zeros]

/-- The law's calls, each from whatever world over w. -/
structure SumsC (w : World) (ao : Option Addr) (cap : Nat) (xs : List Nat) (s V1 V2 V3 : BitVec 32) (n : Int) (N : Nat) : Prop where
  a9 : ∀ W, Below w.heap.size w W → Calls Tryd.prog 9 #[.slice ao xs.length cap] W fun e w' => e = .returned (.int .u32 (V1.toNat : Int)) ∧ Below w.heap.size w w'
  a10 : ∀ W, Below w.heap.size w W → Calls Tryd.prog 10 #[.slice ao xs.length cap] W fun e w' => e = .returned (.int .u32 (V1.toNat : Int)) ∧ Below w.heap.size w w'
  a11 : ∀ W, Below w.heap.size w W → Calls Tryd.prog 11 #[.int .u32 (s.toNat : Int), .slice ao xs.length cap] W fun e w' => e = .returned (.int .u32 (V2.toNat : Int)) ∧ Below w.heap.size w w'
  a12 : ∀ W, Below w.heap.size w W → Calls Tryd.prog 12 #[.int .u32 (s.toNat : Int), .slice ao xs.length cap] W fun e w' => e = .returned (.int .u32 (V2.toNat : Int)) ∧ Below w.heap.size w w'
  a13 : ∀ W, Below w.heap.size w W → Calls Tryd.prog 13 #[.int .u32 (s.toNat : Int), .int .i64 n] W fun e w' => e = .returned (.int .u32 (V3.toNat : Int)) ∧ Below w.heap.size w w'
  a13m : ∀ W, Below w.heap.size w W → Calls Tryd.prog 13 #[.int .u32 (s.toNat : Int), .int .i64 n] (W.alloc (.cells (zrow N) 5)) fun e w' => e = .returned (.int .u32 (V3.toNat : Int)) ∧ Below w.heap.size w w' ∧ Src w' (some ⟨W.heap.size, 0, none⟩) (List.replicate N 0)
  m12 : ∀ W, Below w.heap.size w W → Calls Tryd.prog 12 #[.int .u32 (s.toNat : Int), .slice (some ⟨W.heap.size, 0, none⟩) N N] (W.alloc (.cells (zrow N) 5)) fun e w' => e = .returned (.int .u32 (V3.toNat : Int)) ∧ Below w.heap.size w w'
  n12 : ∀ W g, Below w.heap.size w W → Src W (some ⟨g, 0, none⟩) (List.replicate N 0) → Calls Tryd.prog 12 #[.int .u32 (s.toNat : Int), .slice (some ⟨g, 0, none⟩) N N] W fun e w' => e = .returned (.int .u32 (V3.toNat : Int)) ∧ Below w.heap.size w w'

theorem sumsC (w : World) (ao : Option Addr) (cap : Nat) (xs : List Nat) (s : BitVec 32) (n : Int) (hl : xs.length ≤ 5000) (hn : n ≤ 5000) (hb : Bs xs) (hs : Src w ao xs) (hT : Tab w) :
    ∃ V1 V2 V3, SumsC w ao cap xs s V1 V2 V3 n n.toNat := by
  refine ⟨updN 0#32 xs, updN s xs, zeros s n.toNat, fun W hw => ?_, fun W hw => ?_, fun W hw => ?_, fun W hw => ?_, fun W hw => ?_, fun W hw => ?_, fun W hw => ?_, fun W g hw hg => ?_⟩
  · exact (sum_any ao cap xs W (by omega) hb (hs.below hw)).mono fun e w' ⟨he, h⟩ => ⟨he, hw.trans (h.mono hw.size)⟩
  · exact (rsum_any ao cap xs W (by omega) hb (hs.below hw)).mono fun e w' ⟨he, h⟩ => ⟨he, h ▸ hw⟩
  · exact (update_any s ao cap xs W (by omega) hb (hs.below hw)).mono fun e w' ⟨he, h⟩ => ⟨he, hw.trans (h.mono hw.size)⟩
  · exact (rupdate_any s ao cap xs W (by omega) hb (hs.below hw)).mono fun e w' ⟨he, h⟩ => ⟨he, h ▸ hw⟩
  · exact (zeros_any s n (by omega) W (hT.below hw)).mono fun e w' ⟨he, h⟩ => ⟨he, hw.trans (h.mono hw.size)⟩
  · exact (zeros_any s n (by omega) _ (hT.below (hw.alloc hw.size _))).mono fun e w' ⟨he, h⟩ => ⟨he, (hw.alloc hw.size _).trans (h.mono (hw.alloc hw.size _).size), (zrow_src _ W).below h⟩
  · have h := rupdate_any s (some ⟨W.heap.size, 0, none⟩) n.toNat (List.replicate n.toNat 0) (W.alloc (.cells (zrow n.toNat) 5)) (by rw [List.length_replicate]; omega) (zrow_bs _) (zrow_src _ W)
    rw [List.length_replicate, updN_zeros] at h
    exact h.mono fun e w' ⟨he, h⟩ => ⟨he, h ▸ hw.alloc hw.size _⟩
  · have h := rupdate_any s (some ⟨g, 0, none⟩) n.toNat (List.replicate n.toNat 0) W (by rw [List.length_replicate]; omega) (zrow_bs _) hg
    rw [List.length_replicate, updN_zeros] at h
    exact h.mono fun e w' ⟨he, h⟩ => ⟨he, h ▸ hw⟩

theorem src_open {H : Type} {enc : TypeId × Value → H} {w : World} {base : Nat} {spare : Nat → Bool} {held : Bool} {fuel : Nat} {a : Option Addr} {len cap : Nat} {y : DataW H × List MemPlace}
    (h : DataW.trod enc Tryd.prog w base spare held fuel 22 [.slice a len cap] = some y) : ∃ xs : List Nat, xs.length = len ∧ Bs xs ∧ Src w a xs ∧ len ≤ cap ∧ cap ≤ maxLen := by
  rcases open_ints Tryd.underlying22 Tryd.underlying5 (by kernel_rfl) h with ⟨hcs, _⟩ | ⟨ad, l, c, zs, hcs, _, hl, hm, hz, _, hcell, hwf⟩
  · simp at hcs
    obtain ⟨rfl, rfl, rfl⟩ := hcs
    exact ⟨[], rfl, (fun x h => by cases h), .inl rfl, Nat.le_refl _, Nat.zero_le _⟩
  · simp at hcs
    obtain ⟨rfl, rfl, rfl⟩ := hcs
    have hzl : len ≤ zs.length := by rw [hz]; split <;> omega
    have hbd : ∀ n ∈ zs, 0 ≤ n ∧ n < 256 := fun n hn => by have := bounds_u8 (hwf n hn); omega
    have hlen : ((zs.take len).map Int.toNat).length = len := by rw [List.length_map, List.length_take]; omega
    refine ⟨(zs.take len).map Int.toNat, hlen, ?_, ?_, hl, hm⟩
    · intro x hx
      obtain ⟨z, hz1, rfl⟩ := List.mem_map.1 hx
      have := hbd z (List.mem_of_mem_take hz1)
      omega
    · by_cases h0 : len = 0
      · left
        exact List.eq_nil_of_length_eq_zero (by rw [hlen, h0])
      · right
        have hc0 := hcell 0 (by omega)
        obtain ⟨b, off, spot⟩ := ad
        have hspot : spot = none := by simpa [Addr.add] using World.cell?_spot hc0
        subst hspot
        refine ⟨b, off, rfl, fun j hj => ?_⟩
        rw [hlen] at hj
        have hcj := hcell j (by omega)
        rw [Addr.add_lit] at hcj
        rw [hcj]
        have hm' := hbd (zs[j]'(by omega)) (List.getElem_mem _)
        simp [List.getD, hj, show j < zs.length by omega, Int.toNat_of_nonneg hm'.1]
end Go.Proofs.YtbepppbpllljdaaDoor
