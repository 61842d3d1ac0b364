
/-
  The contracts of a writer and of a reader, told by their bits.
-/
import Derived.Test.YthgehgdbplbcfaaJ
import Derived.Test.YthgehgdbplbcfaaR
namespace Go.Proofs.Ythgehgdbplbcfaa
open Go.RowKit

/-- The blocks from B on. -/
def U (B k : Nat) : Prop := B ≤ k

theorem WI.nil : WI [] 0 := ⟨by simp, by simp, by simp [num]⟩

theorem WI.small {bs : List Nat} {n : Nat} (h : WI bs n) (hn : n ≤ 7000000000) : bs.length ≤ 900000000 := by
  have := h.hi; omega

/-- The bits of a writer tell its bytes. -/
theorem WI.same {a b : List Nat} {n : Nat} (ha : WI a n) (hb : WI b n) (ba : Bs a) (bb : Bs b) (h : num a = num b) : a = b := by
  have h1 := ha.lo; have h2 := ha.hi; have h3 := hb.lo; have h4 := hb.hi
  exact num_inj ba bb (by omega) h

/-- In w1 a writer stands at p, which holds n bits that tell N; since w only blocks from base on have changed. -/
def WrT (w w1 : World) (base p : Nat) (N n : Nat) : Prop := ∃ g, Wr w1 base p g N n ∧ Touch (U base) w w1

theorem Wr.foot {w : World} {base p : Nat} {g : Option Nat} {N n : Nat} (h : Wr w base p g N n) {k : Nat} (hk : Foot p g k) : base ≤ k ∧ k < w.heap.size := by
  obtain ⟨bs, ho, _⟩ := h
  exact ho.foot_lt hk

theorem Wr.touch {S : Nat → Prop} {w w' : World} {base p : Nat} {g : Option Nat} {N n : Nat} (h : Wr w base p g N n) (ht : Touch S w w') (hs : ∀ k, Foot p g k → ¬ S k) : Wr w' base p g N n := by
  obtain ⟨bs, ho, r⟩ := h
  exact ⟨bs, ho.touch ht hs, r⟩

/-- What a Put leaves. -/
def PutTo (w : World) (base p : Nat) (g : Option Nat) (N n : Nat) (w' : World) : Prop :=
  ∃ g', Wr w' base p g' N n ∧ Touch (Foot p g) w w' ∧ ∀ k, g' = some k → g = some k ∨ w.heap.size ≤ k

theorem Wr.put {w : World} {base p : Nat} {g : Option Nat} {N n : Nat} (h : Wr w base p g N n) (hn : n ≤ 7000000000) (v k X : Nat) (hv : v < 4294967296) (hk : k ≤ 32) (hX : v % 2 ^ k = X) :
    Calls Try.prog 37 #[.pointer (some ⟨p, 0, none⟩), .int .u32 v, .int .i64 k] w fun e w' => e = .returned (.tuple #[]) ∧ PutTo w base p g (N + X * 2 ^ n) (n + k) w' := by
  obtain ⟨bs, ho, hw, rfl⟩ := h
  refine (put_yes ho hw (by have := hw.small hn; omega) v k X hv hk hX).mono ?_
  rintro e w' ⟨rfl, bs', ⟨g', ho', ht, hr⟩, hw', hn'⟩
  exact ⟨rfl, g', ⟨bs', ho', hw', hn'⟩, ht, hr⟩

theorem WrT.put {w w1 : World} {base p : Nat} {N n : Nat} (h : WrT w w1 base p N n) (hn : n ≤ 7000000000) (v k X N' : Nat) (hv : v < 4294967296) (hk : k ≤ 32) (hX : v % 2 ^ k = X) (hN : N + X * 2 ^ n = N') :
    Calls Try.prog 37 #[.pointer (some ⟨p, 0, none⟩), .int .u32 v, .int .i64 k] w1 fun e w' => e = .returned (.tuple #[]) ∧ WrT w w' base p N' (n + k) := by
  subst hN
  obtain ⟨g, hw, ht⟩ := h
  refine (hw.put hn v k X hv hk hX).mono ?_
  rintro e w' ⟨rfl, g', hw', ht', _⟩
  exact ⟨rfl, g', hw', ht.trans (ht'.mono fun k hk => (hw.foot hk).1)⟩

theorem WrT.len {w w1 : World} {base p : Nat} {N n : Nat} (h : WrT w w1 base p N n) :
    Calls Try.prog 27 #[.pointer (some ⟨p, 0, none⟩)] w1 fun e w' => e = .returned (.int .i64 n) ∧ w1 = w' := by
  obtain ⟨g, ⟨bs, ho, _⟩, _⟩ := h
  exact ho.wlen

/-- What Out answers: a new copy of the writer's bytes. -/
def OutOf (w w1 : World) (base p : Nat) (N n : Nat) (e : Ending) (w2 : World) : Prop :=
  ∃ bs a c g, e = .returned (.slice a bs.length c) ∧ Bs bs ∧ WI bs n ∧ num bs = N ∧ w2.ownsRow w1.heap.size 5 1 (.slice a bs.length c) bs.length (u8s bs) ∧ Wr w1 base p g N n ∧ Wr w2 base p g N n ∧ Touch (U base) w w2 ∧ Touch (fun _ => False) w1 w2

theorem WrT.out {w w1 : World} {base p : Nat} {N n : Nat} (h : WrT w w1 base p N n) (hn : n ≤ 7000000000) :
    Calls Try.prog 26 #[.pointer (some ⟨p, 0, none⟩)] w1 (OutOf w w1 base p N n) := by
  obtain ⟨g, ⟨bs, ho, hw, rfl⟩, ht⟩ := h
  have hl := hw.small hn
  refine (ho.wout (by omega)).mono ?_
  rintro e w2 ⟨a, c, rfl, hown, hlow, ht2⟩
  exact ⟨bs, a, c, g, rfl, ho.hb, hw, rfl, hown, ⟨bs, ho, hw, rfl⟩, ⟨bs, ho.touch ht2 (fun _ _ h => h), hw, rfl⟩, ht.trans (ht2.mono fun _ h => h.elim), ht2⟩

theorem MadeOb.wr {w w1 w2 : World} {e : Ending} {base : Nat} (h : MadeOb w1 w1.heap.size 79 [] 0 e w2) (hb : base ≤ w1.heap.size) (ht : Touch (U base) w w1) :
    ∃ p, e = .returned (.pointer (some ⟨p, 0, none⟩)) ∧ WrT w w2 base p 0 0 := by
  obtain ⟨p, g, rfl, ho, ht2⟩ := h
  refine ⟨p, rfl, g, ⟨[], ⟨?_, by have := ho.hp; omega, ho.hb, ho.ht⟩, WI.nil, rfl⟩, ht.trans (ht2.mono fun _ h => h.elim)⟩
  obtain ⟨sv, h1, h2, h3⟩ := ho.blk
  exact ⟨sv, h1, h2, own_base h3 hb⟩

theorem newWriter_T {w w1 : World} {base : Nat} (hb : base ≤ w1.heap.size) (ht : Touch (U base) w w1) :
    Calls Try.prog 24 #[] w1 fun e w2 => ∃ p, e = .returned (.pointer (some ⟨p, 0, none⟩)) ∧ WrT w w2 base p 0 0 :=
  (newWriter_any w1).mono fun _ _ h => h.wr hb ht

theorem BySl.lt {w : World} {v : Value} {xs : List Nat} (h : BySl w v xs) (hp : 0 < xs.length) : ∀ k, v.ownBlock = some k → k < w.heap.size := by
  intro k hk
  obtain ⟨b, off, c, rfl, _, hc⟩ := h.at hp
  have := World.block_lt_of_cell? w _ (hc 0 hp)
  simp [Value.ownBlock] at hk
  subst hk
  exact this

theorem WI.up {bs : List Nat} {n : Nat} (h : WI bs n) : up8 n = 8 * bs.length := by
  have h1 := h.lo; have h2 := h.hi
  unfold up8; omega

theorem WrT.alloc {w w1 : World} {base p : Nat} {N n : Nat} (h : WrT w w1 base p N n) (o : Obj) : WrT w (w1.alloc o) base p N n := by
  obtain ⟨g, hw, ht⟩ := h
  exact ⟨g, hw.touch ((Touch.refl (fun _ => False) w1).alloc o) (fun _ _ h => h), ht.alloc o⟩

theorem WrT.drewN {w w1 : World} {base p : Nat} {N n : Nat} (h : WrT w w1 base p N n) (k : Nat) : WrT w (w1.drewN k) base p N n := by
  obtain ⟨g, hw, ht⟩ := h
  exact ⟨g, hw.touch ((Touch.refl (fun _ => False) w1).drewN k) (fun _ _ h => h), ht.drewN k⟩

theorem PutTo.go {w w1 w2 : World} {base p : Nat} {g : Option Nat} {N n M m : Nat} (h : PutTo w1 base p g N n w2) (hw : Wr w1 base p g M m) (ht : Touch (U base) w w1) : WrT w w2 base p N n := by
  obtain ⟨g', hw', ht', _⟩ := h
  exact ⟨g', hw', ht.trans (ht'.mono fun k hk => (hw.foot hk).1)⟩

/-! ### The reader: since it was made nothing that was there before has changed -/
def RdT (w0 w1 : World) (p : Nat) (bs : List Nat) (at_ : Nat) : Prop := ∃ g, Ob w1 w0.heap.size 74 p g bs at_ ∧ Touch (U w0.heap.size) w0 w1

theorem newReader_T {w : World} {v : Value} {xs : List Nat} (h : BySl w v xs) (hb : Bs xs) (hl : xs.length ≤ 1000000000) :
    Calls Try.prog 19 #[v] w fun e w1 => ∃ p, e = .returned (.pointer (some ⟨p, 0, none⟩)) ∧ RdT w w1 p xs 0 :=
  (newReader_any h hb hl).mono fun _ _ ⟨p, g, he, ho, ht⟩ => ⟨p, he, g, ho, ht.mono fun _ h => h.elim⟩

theorem RdT.moved {w0 w1 w2 : World} {p : Nat} {g : Option Nat} {bs : List Nat} {m : Nat} (hp : w0.heap.size ≤ p) (ht : Touch (U w0.heap.size) w0 w1) (h : Moved w1 w0.heap.size 74 p g bs m w2) : RdT w0 w2 p bs m :=
  ⟨g, h.1, ht.trans (h.2.mono fun k hk => by subst hk; exact hp)⟩

theorem RdT.drewN {w0 w1 : World} {p : Nat} {bs : List Nat} {m : Nat} (h : RdT w0 w1 p bs m) (n : Nat) : RdT w0 (w1.drewN n) p bs m := by
  obtain ⟨g, ho, ht⟩ := h
  exact ⟨g, ho.drewN n, ht.drewN n⟩

theorem RdT.peek {w0 w1 : World} {p : Nat} {bs : List Nat} {at_ : Nat} (h : RdT w0 w1 p bs at_) (hl : bs.length ≤ 1000000000) (ha : at_ ≤ 8 * bs.length) (n V : Nat) (hn : n ≤ 32) (hV : pk bs at_ n = V) :
    Calls Try.prog 35 #[.pointer (some ⟨p, 0, none⟩), .int .i64 n] w1 fun e w' => e = .returned (.int .u32 V) ∧ w1 = w' := by
  subst hV
  obtain ⟨g, ho, ht⟩ := h
  exact ho.peek hl ha n hn

theorem RdT.skip {w0 w1 : World} {p : Nat} {bs : List Nat} {at_ : Nat} (h : RdT w0 w1 p bs at_) (hl : bs.length ≤ 1000000000) (n : Nat) (hn : at_ + n ≤ 8 * bs.length) :
    Calls Try.prog 20 #[.pointer (some ⟨p, 0, none⟩), .int .i64 n] w1 fun e w' => e = .returned (.bool true) ∧ RdT w0 w' p bs (at_ + n) := by
  obtain ⟨g, ho, ht⟩ := h
  exact (ho.skip_yes hl n hn).mono fun _ _ ⟨he, hm⟩ => ⟨he, RdT.moved ho.hp ht hm⟩

theorem RdT.skip_no {w0 w1 : World} {p : Nat} {bs : List Nat} {at_ : Nat} (h : RdT w0 w1 p bs at_) (hl : bs.length ≤ 1000000000) (ha : at_ ≤ 8 * bs.length) (n : Int) (hn : n < 0 ∨ 8 * (bs.length : Int) - at_ < n) :
    Calls Try.prog 20 #[.pointer (some ⟨p, 0, none⟩), .int .i64 n] w1 fun e w' => e = .returned (.bool false) ∧ ∃ nq, w' = w1.drewN nq := by
  obtain ⟨g, ho, ht⟩ := h
  exact ho.skip_no hl ha n hn

theorem RdT.at {w0 w1 : World} {p : Nat} {bs : List Nat} {at_ : Nat} (h : RdT w0 w1 p bs at_) :
    Calls Try.prog 23 #[.pointer (some ⟨p, 0, none⟩)] w1 fun e w' => e = .returned (.int .i64 at_) ∧ w1 = w' := by
  obtain ⟨g, ho, ht⟩ := h
  exact ho.at

theorem RdT.left {w0 w1 : World} {p : Nat} {bs : List Nat} {at_ : Nat} (h : RdT w0 w1 p bs at_) (hl : bs.length ≤ 1000000000) (ha : at_ ≤ 8 * bs.length) :
    Calls Try.prog 34 #[.pointer (some ⟨p, 0, none⟩)] w1 fun e w' => e = .returned (.int .i64 (8 * bs.length - at_)) ∧ ∃ nq, w' = w1.drewN nq := by
  obtain ⟨g, ho, ht⟩ := h
  exact ho.left hl ha

/-- What Bytes answers. -/
def BytesOf (w0 w1 : World) (p : Nat) (bs : List Nat) (m : Nat) (xs : List Nat) (e : Ending) (w2 : World) : Prop :=
  ∃ a c, e = .returned (.tuple #[.slice a xs.length c, .bool true]) ∧ w2.ownsRow w1.heap.size 5 1 (.slice a xs.length c) xs.length (u8s xs) ∧ RdT w0 w2 p bs m

end Go.Proofs.Ythgehgdbplbcfaa
