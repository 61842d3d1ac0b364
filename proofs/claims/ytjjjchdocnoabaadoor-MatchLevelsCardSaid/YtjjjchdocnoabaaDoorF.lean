
/-
  Contracts of NewReader, NewWriter, Out and SameBytes.
-/
import Derived.Test.YtjjjchdocnoabaaDoorE
import Derived.OpenShut
namespace Go.Proofs.YtjjjchdocnoabaaDoor
open Go.RowKit

theorem BySl.at {w : World} {v : Value} {xs : List Nat} (h : BySl w v xs) (hp : 0 < xs.length) :
    ∃ b off c, v = .slice (some ⟨b, off, none⟩) xs.length c ∧ xs.length ≤ c ∧ ∀ j, j < xs.length → w.cell? ⟨b, off + j, none⟩ = some (.int .u8 (byt xs j)) := by
  rcases h with ⟨_, rfl⟩ | ⟨ad, c, rfl, hc, h⟩
  · simp at hp
  · have h' : ∀ i, i < (xs.map fun x : Nat => (x : Int)).length → w.cell? (ad.add i) = some (.int .u8 ((xs.map fun x : Nat => (x : Int)).getD i 0)) := by
      intro i hi
      have hi' : i < xs.length := by simpa using hi
      refine h i _ ?_
      simp [u8s, List.getD, hi']
    obtain ⟨b, off, rfl, h2⟩ := ints_at h' (by simpa using hp)
    refine ⟨b, off, c, rfl, hc, fun j hj => ?_⟩
    rw [h2 j (by simpa using hj)]
    simp [byt, List.getD, hj]

theorem BySl.own {w : World} {base : Nat} {v : Value} {xs : List Nat} (h : w.ownsRow base 5 1 v xs.length (u8s xs)) : BySl w v xs := by
  rcases h.2 with ⟨rfl, hn⟩ | ⟨g, cap, cur, rfl, hb, hh, hnc, r⟩
  · exact .inl ⟨rfl, List.eq_nil_of_length_eq_zero hn⟩
  · exact .inr ⟨⟨g, 0, none⟩, cap, rfl, hnc, h.cells (by simp [Value.ownBlock])⟩

theorem BySl.touch {S : Nat → Prop} {w w' : World} {v : Value} {xs : List Nat} (h : BySl w v xs) (ht : Touch S w w') (hs : ∀ k, v.ownBlock = some k → ¬ S k) : BySl w' v xs := by
  rcases h with h | ⟨ad, c, rfl, hc, h⟩
  · exact .inl h
  · refine .inr ⟨ad, c, rfl, hc, fun j u hu => ?_⟩
    have h1 := h j u hu
    have hlt := World.block_lt_of_cell? w _ h1
    have hb : (ad.add j).block = ad.block := by unfold Addr.add; split <;> rfl
    rw [World.cell?_of_block (w := w) (ht.block _ hlt (by rw [hb]; exact hs _ (by simp [Value.ownBlock])))]
    exact h1

theorem BySl.below {B : Nat} {w w' : World} {v : Value} {xs : List Nat} (h : BySl w v xs) (ht : Below B w w') (hs : ∀ k, v.ownBlock = some k → k < B) : BySl w' v xs := by
  rcases h with h | ⟨ad, c, rfl, hc, h⟩
  · exact .inl h
  · refine .inr ⟨ad, c, rfl, hc, fun j u hu => ?_⟩
    have h1 := h j u hu
    have hb : (ad.add j).block = ad.block := by unfold Addr.add; split <;> rfl
    rw [World.cell?_of_block (w := w) (ht.block _ (by rw [hb]; exact hs _ (by simp [Value.ownBlock])))]
    exact h1

/-- A new object; nothing else has changed. -/
def MadeOb (w : World) (base t : Nat) (bs : List Nat) (n : Nat) (e : Ending) (w' : World) : Prop :=
  ∃ p g, e = .returned (.pointer (some ⟨p, 0, none⟩)) ∧ Ob w' base t p g bs n ∧ Touch (fun _ => False) w w'

theorem Ob.made {w : World} {base t : Nat} {sv : Value} {bs : List Nat} (n : Nat) (ht : t ≠ 5) (hb : Bs bs) (hown : w.ownsRow base 5 1 sv bs.length (u8s bs)) (hbase : base ≤ w.heap.size) {x : Int} (hx : x = (n : Int)) :
    Ob (w.alloc (.cells #[sv, .int .i64 x] t)) base t w.heap.size sv.ownBlock bs n := by
  subst hx
  exact ⟨⟨sv, heap_alloc_new w _, rfl, hown.alloc _⟩, hbase, hb, ht⟩

/-! ### SameBytes -/
theorem same_len {v v' : Value} {n m c c' : Nat} {a a' : Option Addr} (w : World) (hv : v = .slice a n c) (hv' : v' = .slice a' m c') (h : n ≠ m) :
    Calls Tryd.prog 11 #[v, v'] w fun e w' => e = .returned (.bool false) ∧ ∃ nq, w' = w.drewN nq := by
  subst hv; subst hv'
  have h1 : ((n : Int) == (m : Int)) = false := by simp; omega
  have h2 : ((n : Int) != (m : Int)) = true := by simp [bne]; omega
  go_enter Tryd.func11, Tryd.ntmps11
  go_wp2
  go_ret
  exact ⟨rfl, 0, rfl⟩

theorem same_nil {v v' : Value} {c c' : Nat} {a a' : Option Addr} (w : World) (hv : v = .slice a 0 c) (hv' : v' = .slice a' 0 c') :
    Calls Tryd.prog 11 #[v, v'] w fun e w' => e = .returned (.bool true) ∧ ∃ nq, w' = w.drewN nq := by
  subst hv; subst hv'
  go_enter Tryd.func11, Tryd.ntmps11
  go_wp2
  refine wp_loop_rounds 1 ?_
  rw [rounds_succ]
  go_wp2
  go_ret
  exact ⟨rfl, 0, rfl⟩

set_option maxHeartbeats 800000 in
theorem same_some (b off c b' off' c' len : Nat) (xs ys : List Nat) (w : World) (hx : xs.length = len) (hy : ys.length = len) (hl : len ≤ 1000000000)
    (hc : ∀ j, j < len → w.cell? ⟨b, off + j, none⟩ = some (.int .u8 (byt xs j))) (hc' : ∀ j, j < len → w.cell? ⟨b', off' + j, none⟩ = some (.int .u8 (byt ys j))) :
    Calls Tryd.prog 11 #[.slice (some ⟨b, off, none⟩) len c, .slice (some ⟨b', off', none⟩) len c'] w fun e w' => e = .returned (.bool (decide (xs = ys))) ∧ ∃ nq, w' = w.drewN nq := by
  have HX := Lib.hid hx
  have HY := Lib.hid hy
  have HC := Lib.hid hc
  have HC' := Lib.hid hc'
  clear hc hc' hx hy
  go_enter Tryd.func11, Tryd.ntmps11
  go_wp2
  go_loopw [5] (fun i wr => ∃ k nq : Nat, k ≤ len ∧ i = .int .i64 k ∧ (∀ j, j < k → byt xs j = byt ys j) ∧ wr = w.drewN nq) (fun i _ => len - (intOf i).toNat)
  case atStart => exact ⟨0, 0, Nat.zero_le _, rfl, fun j hj => absurd hj (by omega), rfl⟩
  case round =>
    obtain ⟨k, nq, hk, rfl, hall, rfl⟩ := hrel
    have HA := Lib.hid hall
    clear hall
    by_cases hlt : k < len
    · have h1 := HC.out k hlt
      have h2 := HC'.out k hlt
      by_cases he : byt xs k = byt ys k
      · have e1 : ((byt xs k : Int) == (byt ys k : Int)) = true := by simp [he]
        have e2 : ((byt xs k : Int) != (byt ys k : Int)) = false := by simp [he]
        go_wp2
        go_quiet (fail)
        go_wp2
        go_roundw
        case rel => exact ⟨k + 1, _, by omega, by go_num, fun j hj => by
            by_cases hjk : j = k
            · subst hjk; exact he
            · exact HA.out j (by omega), rfl⟩
        case measure => simp [intOf]; omega
      · have e1 : ((byt xs k : Int) == (byt ys k : Int)) = false := by simp; omega
        have e2 : ((byt xs k : Int) != (byt ys k : Int)) = true := by simp [bne]; omega
        have HE := Lib.hid he
        clear he
        go_wp2
        go_quiet (fail)
        go_wp2
        go_ret
        refine ⟨?_, _, World.drewN_drewN _ _ _⟩
        have : ¬ xs = ys := fun e => HE.out (by rw [e])
        simp [this]
    · have hk' : k = len := by omega
      have hxy : xs = ys := by
        apply List.ext_getElem (by rw [HX.out, HY.out])
        intro j h1 h2
        have := HA.out j (by have := HX.out; omega)
        simpa [byt, List.getD, h1, h2] using this
      have HXY := Lib.hid hxy
      clear hxy hk'
      go_wp2
      go_ret
      exact ⟨by simp [HXY.out], _, rfl⟩

theorem same_any {w : World} {v v' : Value} {xs ys : List Nat} (h : BySl w v xs) (h' : BySl w v' ys) (hl : xs.length ≤ 1000000000) :
    Calls Tryd.prog 11 #[v, v'] w fun e w' => e = .returned (.bool (decide (xs = ys))) ∧ ∃ nq, w' = w.drewN nq := by
  have shape : ∀ {v : Value} {xs : List Nat}, BySl w v xs → ∃ a c, v = .slice a xs.length c := by
    intro v xs h
    rcases h with ⟨rfl, rfl⟩ | ⟨ad, c, rfl, _⟩
    · exact ⟨_, _, rfl⟩
    · exact ⟨_, _, rfl⟩
  obtain ⟨a, c, e⟩ := shape h
  obtain ⟨a', c', e'⟩ := shape h'
  by_cases hlen : xs.length = ys.length
  · by_cases h0 : xs.length = 0
    · have hx := List.eq_nil_of_length_eq_zero h0
      have hy := List.eq_nil_of_length_eq_zero (hlen ▸ h0)
      subst hx; subst hy
      simpa using same_nil w e e'
    · obtain ⟨b, off, c, rfl, _, hc⟩ := h.at (by omega)
      obtain ⟨b', off', c', rfl, _, hc'⟩ := h'.at (by omega)
      rw [← hlen]
      exact same_some b off c b' off' c' xs.length xs ys w rfl hlen.symm hl hc (fun j hj => hc' j (by omega))
  · have : ¬ xs = ys := fun e => hlen (by rw [e])
    simpa [this] using same_len w e e' hlen

end Go.Proofs.YtjjjchdocnoabaaDoor
