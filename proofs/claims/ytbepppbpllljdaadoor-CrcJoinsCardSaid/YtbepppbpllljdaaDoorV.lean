/-
  A row of slices of bytes that came in; the state of CrcJoins.
-/
import Derived.Test.YtbepppbpllljdaaDoorU
import Derived.Lib.SmallJoins
import Derived.Deep.Slices
namespace Go.Proofs.YtbepppbpllljdaaDoor
open Go.ChangeShapes Go.WideShapes Go.RowKit CrcPlain

/-- A slice of bytes that lies in a cell. -/
structure Elt (w : World) (p : Addr) (ao : Option Addr) (c : Nat) (xs : List Nat) : Prop where
  cell : w.cell? p = some (.slice ao xs.length c)
  by_ : BySl w (.slice ao xs.length c) xs
  src : Src w ao xs
  bs : Bs xs

theorem Elt.below {w w' : World} {p : Addr} {ao : Option Addr} {c : Nat} {xs : List Nat} (h : Elt w p ao c xs) (hb : Below w.heap.size w w') : Elt w' p ao c xs := by
  refine ⟨(hb.cell (World.block_lt_of_cell? w _ h.cell)).trans h.cell, ?_, h.src.below hb, h.bs⟩
  rcases h.by_ with h1 | ⟨ad, c', e1, e2, e3⟩
  · exact .inl h1
  · exact .inr ⟨ad, c', e1, e2, fun j u hu => (hb.cell (World.block_lt_of_cell? w _ (e3 j u hu))).trans (e3 j u hu)⟩

/-- The slices of bytes that came in. -/
def Lst (w : World) (a : Option Addr) (len : Nat) : Prop :=
  len = 0 ∨ ∃ b off, a = some ⟨b, off, none⟩ ∧ ∀ i, i < len → ∃ ao c xs, Elt w ⟨b, off + i, none⟩ ao c xs

theorem addr0 (a : Addr) : a.add 0 = a := by simp [Addr.add]
theorem Tryd.cells22 : Tryd.prog.cellsOf 22 = 1 := by kernel_rfl

theorem elt_open {H : Type} {enc : TypeId × Value → H} {w : World} {base : Nat} {spare : Nat → Bool} {held : Bool} {fuel : Nat} {sv : Value} {y : DataW H × List MemPlace}
    (h : DataW.trod enc Tryd.prog w base spare held fuel 22 [sv] = some y) : ∃ ao c xs, sv = .slice ao xs.length c ∧ BySl w (.slice ao xs.length c) xs ∧ Src w ao xs ∧ Bs xs := by
  rcases open_ints Tryd.underlying22 Tryd.underlying5 (by kernel_rfl) h with ⟨hcs, _⟩ | ⟨ad, l, c, zs, hcs, _, hl, hm, hz, _, hcell, hwf⟩
  · simp only [List.cons.injEq, and_true] at hcs
    exact ⟨none, 0, [], hcs, .inl ⟨rfl, rfl⟩, .inl rfl, fun x h => by cases h⟩
  · simp only [List.cons.injEq, and_true] at hcs
    subst hcs
    obtain ⟨xs, hx, hb, hs, _, _⟩ := src_open h
    have hzl : l ≤ zs.length := by rw [hz]; split <;> omega
    subst hx
    refine ⟨some ad, c, xs, rfl, .inr ⟨ad, c, rfl, hl, fun j u hu => ?_⟩, hs, hb⟩
    have hj : j < xs.length := by
      have := (List.getElem?_eq_some_iff.1 hu).1
      rwa [u8s_len] at this
    rcases hs with h0 | ⟨b, off, e, hc⟩
    · rw [h0] at hj; simp at hj
    · obtain rfl := Option.some.inj e
      rw [Addr.add_lit, hc j hj, ← hu, u8s_at xs j hj]

theorem lst_open {H : Type} {enc : TypeId × Value → H} {w : World} {base : Nat} {spare : Nat → Bool} {held : Bool} {fuel : Nat} {a : Option Addr} {len cap : Nat} {y : DataW H × List MemPlace}
    (h : DataW.trod enc Tryd.prog w base spare held fuel 29 [.slice a len cap] = some y) : Lst w a len ∧ len ≤ maxLen := by
  rcases Go.Deep.open_slice Tryd.underlying29 h with ⟨h0, _⟩ | ⟨ad, l, c, m, n, D, Pl, hcs, _, hl, hm, hmm, _, hi⟩
  · simp at h0
    exact ⟨.inl h0.2.1, by omega⟩
  · simp at hcs
    obtain ⟨rfl, rfl, rfl⟩ := hcs
    have hlm : len ≤ m := by rw [hmm]; split <;> omega
    refine ⟨?_, by omega⟩
    have hE : ∀ i, i < len → ∃ sv, w.cell? (ad.add i) = some sv ∧ ∃ ao c xs, sv = .slice ao xs.length c ∧ BySl w (.slice ao xs.length c) xs ∧ Src w ao xs ∧ Bs xs := by
      intro i hil
      obtain ⟨cs', hc, ht⟩ := hi i (by omega)
      rw [Tryd.cells22, Nat.mul_one] at hc
      obtain ⟨_, hlen, hat⟩ := World.cells?_some hc
      match cs', hlen with
      | [sv], _ =>
        have h0 := hat 0 (by omega)
        rw [addr0] at h0
        exact ⟨sv, h0, elt_open ht⟩
    by_cases h0 : len = 0
    · exact .inl h0
    · right
      obtain ⟨sv, hc0, _⟩ := hE 0 (by omega)
      obtain ⟨b, off, spot⟩ := ad
      have hspot : spot = none := by simpa [Addr.add] using World.cell?_spot hc0
      subst hspot
      refine ⟨b, off, rfl, fun i hil => ?_⟩
      obtain ⟨sv, hc, ao, c, xs, rfl, h1, h2, h3⟩ := hE i hil
      rw [Addr.add_lit] at hc
      exact ⟨ao, c, xs, hc, h1, h2, h3⟩

/-- The state of CrcJoins: the bytes so far in a row of the call's own, and the digest. -/
structure Jn (w : World) (p : Nat) (L : List Nat) (v : Value) (s : BitVec 32) (n : Nat) (wr : World) : Prop where
  own : wr.ownsRow w.heap.size 5 1 v L.length (u8s L)
  dg : Dg wr p s n
  below : Below w.heap.size w wr
  hp : w.heap.size ≤ p
  bs : Bs L

theorem Jn.apart {w wr : World} {p n : Nat} {L : List Nat} {v : Value} {s : BitVec 32} (h : Jn w p L v s n wr) : v.ownBlock ≠ some p := by
  intro e
  rcases h.own.2 with ⟨rfl, _⟩ | ⟨g, cap, cur, rfl, hb, hh, _⟩
  · simp [Value.ownBlock] at e
  · simp [Value.ownBlock] at e
    subst e
    have := h.dg
    rw [Dg, Blk, hh] at this
    simp at this
theorem Jn.grow {w wr w' : World} {p n : Nat} {L : List Nat} {v : Value} {s : BitVec 32} (h : Jn w p L v s n wr) (hb : Below wr.heap.size wr w') : Jn w p L v s n w' :=
  ⟨ownsRow_touch h.own (Touch.of_below (S := fun _ => False) hb) fun _ _ h => h, Blk.below h.dg hb, h.below.trans (hb.mono h.below.size), h.hp, h.bs⟩
theorem Jn.drew {w wr : World} {p n : Nat} {L : List Nat} {v : Value} {s : BitVec 32} (h : Jn w p L v s n wr) : Jn w p L v s n wr.drew := ⟨h.own, h.dg, h.below.drew, h.hp, h.bs⟩
theorem Jn.app {w wr w' : World} {p n : Nat} {L xs : List Nat} {v v' : Value} {s : BitVec 32} (h : Jn w p L v s n wr) (hx : Bs xs) (hA : Apd wr w.heap.size v (L ++ xs) v' w') : Jn w p (L ++ xs) v' s n w' := by
  refine ⟨hA.own, Blk.touch h.dg hA.touch h.apart, h.below.trans (hA.touch.below h.below.size fun k hk => (h.own.lt k hk).1), h.hp, fun x hx' => ?_⟩
  rcases List.mem_append.1 hx' with h1 | h1
  · exact h.bs x h1
  · exact hx x h1
theorem Jn.wrote {w wr w' : World} {p n n' : Nat} {L : List Nat} {v : Value} {s s' : BitVec 32} (h : Jn w p L v s n wr) (hd : Dg w' p s' n') (ht : Touch (fun k => k = p) wr w') : Jn w p L v s' n' w' :=
  ⟨ownsRow_touch h.own ht fun k hk e => h.apart (by rw [hk, e]), hd, h.below.trans (ht.below h.below.size fun k hk => by have := h.hp; omega), h.hp, h.bs⟩
theorem Jn.src {w wr : World} {p n : Nat} {L : List Nat} {v : Value} {s : BitVec 32} (h : Jn w p L v s n wr) : ∃ ao c, v = .slice ao L.length c ∧ Src wr ao L := by
  rcases h.own.2 with ⟨rfl, h0⟩ | ⟨g, cap, cur, rfl, hb, hh, _⟩
  · exact ⟨none, 0, by rw [h0], .inl (List.eq_nil_of_length_eq_zero h0)⟩
  · refine ⟨_, cap, rfl, .inr ⟨g, 0, rfl, fun j hj => ?_⟩⟩
    rw [Nat.zero_add, World.ownsRow.cellAt h.own j (by omega), u8s_at L j hj]

theorem join_app (L xs : List Nat) : join (updN 0#32 L) (updN 0#32 xs) xs.length = updN 0#32 (L ++ xs) := by
  rw [updN_append, updN_upd (updN 0#32 L), upd_join]
  unfold join
  rw [show (bv xs).length = xs.length from by simp [bv]]
  rfl
end Go.Proofs.YtbepppbpllljdaaDoor
