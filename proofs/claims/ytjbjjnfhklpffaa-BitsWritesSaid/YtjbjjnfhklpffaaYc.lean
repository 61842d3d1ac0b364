/-
  A writer beside the reference's bits.
-/
import Derived.Test.YtjbjjnfhklpffaaYb
import Derived.Test.YtjbjjnfhklpffaaWa
namespace Go.Proofs.Ytjbjjnfhklpffaa
open Go.RowKit

/-- A writer and the reference's bits. -/
def Duo (w w1 : World) (B p N n pr M m : Nat) : Prop :=
  ∃ g gr l, Wr w1 B p g N n ∧ Rf w1 B pr gr l ∧ l.length = m ∧ bnum l = M ∧ (∀ k, Foot p g k → ¬ Foot pr gr k) ∧ Touch (U B) w w1

theorem Duo.touchU {w w1 : World} {B p N n pr M m : Nat} (h : Duo w w1 B p N n pr M m) : Touch (U B) w w1 := by
  obtain ⟨g, gr, l, _, _, _, _, _, ht⟩ := h; exact ht

theorem Duo.still {w w1 w2 : World} {B p N n pr M m : Nat} (h : Duo w w1 B p N n pr M m) (ht : Touch (fun _ => False) w1 w2) : Duo w w2 B p N n pr M m := by
  obtain ⟨g, gr, l, h1, h2, h3, h4, h5, h6⟩ := h
  exact ⟨g, gr, l, h1.touch ht (fun _ _ h => h), h2.touch ht (fun _ _ h => h), h3, h4, h5, h6.trans (ht.mono fun _ h => h.elim)⟩

theorem Duo.ofPut {w w1 w2 : World} {B p N n N' n' pr M m : Nat} {g gr : Option Nat} {l : List Nat} (h1 : Wr w1 B p g N n) (h2 : Rf w1 B pr gr l) (h3 : l.length = m) (h4 : bnum l = M) (h5 : ∀ k, Foot p g k → ¬ Foot pr gr k) (h6 : Touch (U B) w w1) (hp : PutTo w1 B p g N' n' w2) : Duo w w2 B p N' n' pr M m := by
  obtain ⟨g', hw', ht', hr⟩ := hp
  refine ⟨g', gr, l, hw', h2.touch ht' (fun k a b => h5 k b a), h3, h4, fun k a b => ?_, h6.trans (ht'.mono fun k hk => (h1.foot hk).1)⟩
  rcases a with rfl | a
  · exact h5 _ (.inl rfl) b
  · rcases hr k a with c | c
    · exact h5 _ (.inr c) b
    · have := (h2.foot b).2; omega

theorem Duo.wput {w w1 : World} {B p N n pr M m : Nat} (h : Duo w w1 B p N n pr M m) (hn : n ≤ 7000000000) (v k N' n' : Nat) (hv : v < 4294967296) (hk : k ≤ 32) (hN : N + v % 2 ^ k * 2 ^ n = N') (hn' : n + k = n') :
    Calls Try.prog 21 #[.pointer (some ⟨p, 0, none⟩), .int .u32 v, .int .i64 k] w1 fun e w' => e = .returned (.tuple #[]) ∧ Duo w w' B p N' n' pr M m := by
  subst hN; subst hn'
  obtain ⟨g, gr, l, h1, h2, h3, h4, h5, h6⟩ := h
  exact (h1.put hn v k _ hv hk rfl).mono fun _ _ ⟨he, hp⟩ => ⟨he, Duo.ofPut h1 h2 h3 h4 h5 h6 hp⟩

theorem Duo.wraw {w w1 : World} {B p N n pr M m : Nat} {sv : Value} {ys : List Nat} (h : Duo w w1 B p N n pr M m) (hs : BySl w1 sv ys) (hy : Bs ys) (hn : n ≤ 7000000000) (hl : ys.length ≤ 1000000) (N' n' : Nat) (hN : N + num ys * 2 ^ up8 n = N') (hn' : up8 n + 8 * ys.length = n') :
    Calls Try.prog 25 #[.pointer (some ⟨p, 0, none⟩), sv] w1 fun e w' => e = .returned (.tuple #[]) ∧ Duo w w' B p N' n' pr M m := by
  obtain ⟨g, gr, l, h1, h2, h3, h4, h5, h6⟩ := h
  exact (h1.raw hs hy hn hl N' n' hN hn').mono fun _ _ ⟨he, hp⟩ => ⟨he, Duo.ofPut h1 h2 h3 h4 h5 h6 hp⟩

theorem Duo.walign {w w1 : World} {B p N n pr M m : Nat} (h : Duo w w1 B p N n pr M m) (hn : n ≤ 7000000000) :
    Calls Try.prog 23 #[.pointer (some ⟨p, 0, none⟩)] w1 fun e w' => e = .returned (.tuple #[]) ∧ Duo w w' B p N (up8 n) pr M m := by
  obtain ⟨g, gr, l, ⟨bs, ho, hw, rfl⟩, h2, h3, h4, h5, h6⟩ := h
  have hsm := hw.small hn
  refine (ho.walign (by omega)).mono ?_
  rintro e w' ⟨rfl, ho', ht'⟩
  rw [hw.up]
  exact ⟨rfl, g, gr, l, ⟨bs, ho', ⟨Nat.le_refl _, by omega, by have := num_lt ho'.hb; rw [pow256] at this; exact this⟩, rfl⟩, h2.touch ht' (fun k a b => h5 k (.inl b) a), h3, h4, h5, h6.trans (ht'.mono fun k hk => by subst hk; exact ho.hp)⟩

theorem Duo.wlen {w w1 : World} {B p N n pr M m : Nat} (h : Duo w w1 B p N n pr M m) :
    Calls Try.prog 27 #[.pointer (some ⟨p, 0, none⟩)] w1 fun e w' => e = .returned (.int .i64 n) ∧ w1 = w' := by
  obtain ⟨g, gr, l, ⟨bs, ho, _⟩, _⟩ := h
  exact ho.wlen

def DuoOut (w w1 : World) (B p N n pr M m : Nat) (e : Ending) (w2 : World) : Prop :=
  ∃ bs a c, e = .returned (.slice a bs.length c) ∧ Bs bs ∧ WI bs n ∧ num bs = N ∧ BySl w2 (.slice a bs.length c) bs ∧ Duo w w2 B p N n pr M m ∧ Touch (fun _ => False) w1 w2

theorem Duo.wout {w w1 : World} {B p N n pr M m : Nat} (h : Duo w w1 B p N n pr M m) (hn : n ≤ 7000000000) :
    Calls Try.prog 28 #[.pointer (some ⟨p, 0, none⟩)] w1 (DuoOut w w1 B p N n pr M m) := by
  have hD := h
  obtain ⟨g, gr, l, h1, h2, h3, h4, h5, h6⟩ := h
  have hT : WrT w w1 B p N n := ⟨g, h1, h6⟩
  refine (hT.out hn).mono ?_
  rintro e w2 ⟨bs, a, c, _, he, k1, k2, k3, hown, _, _, _, ht2⟩
  exact ⟨bs, a, c, he, k1, k2, k3, BySl.own hown, hD.still ht2, ht2⟩

theorem Duo.ofRf {w w1 w2 : World} {B p N n pr M m : Nat} {g gr : Option Nat} {l : List Nat} (h1 : Wr w1 B p g N n) (h2 : Rf w1 B pr gr l) (h5 : ∀ k, Foot p g k → ¬ Foot pr gr k) (h6 : Touch (U B) w w1) (hp : RfTo w1 B pr gr M m w2) : Duo w w2 B p N n pr M m := by
  obtain ⟨g', l', hr', k1, k2, ht', hr⟩ := hp
  refine ⟨g, g', l', h1.touch ht' (fun k a b => h5 k a b), hr', k1, k2, fun k a b => ?_, h6.trans (ht'.mono fun k hk => (h2.foot hk).1)⟩
  rcases b with rfl | b
  · exact h5 _ a (.inl rfl)
  · rcases hr k b with c | c
    · exact h5 _ a (.inr c)
    · have := (h1.foot a).2; omega

theorem Duo.rput {w w1 : World} {B p N n pr M m : Nat} (h : Duo w w1 B p N n pr M m) (hn : m ≤ 100000000) (v k N' n' : Nat) (hv : v < 4294967296) (hk : k ≤ 32) (hN : M + v % 2 ^ k * 2 ^ m = N') (hn' : m + k = n') :
    Calls Try.prog 22 #[.pointer (some ⟨pr, 0, none⟩), .int .u32 v, .int .i64 k] w1 fun e w' => e = .returned (.tuple #[]) ∧ Duo w w' B p N n pr N' n' := by
  obtain ⟨g, gr, l, h1, h2, rfl, rfl, h5, h6⟩ := h
  exact ((RfTo.refl h2).put (by omega) v k N' n' hv hk hN hn').mono fun _ _ ⟨he, hp⟩ => ⟨he, Duo.ofRf h1 h2 h5 h6 hp⟩

theorem Duo.ralign {w w1 : World} {B p N n pr M m : Nat} (h : Duo w w1 B p N n pr M m) (hn : m ≤ 100000000) :
    Calls Try.prog 24 #[.pointer (some ⟨pr, 0, none⟩)] w1 fun e w' => e = .returned (.tuple #[]) ∧ Duo w w' B p N n pr M (up8 m) := by
  obtain ⟨g, gr, l, h1, h2, rfl, rfl, h5, h6⟩ := h
  exact ((RfTo.refl h2).align (by omega)).mono fun _ _ ⟨he, hp⟩ => ⟨he, Duo.ofRf h1 h2 h5 h6 hp⟩

theorem Duo.rraw {w w1 : World} {B p N n pr M m : Nat} {sv : Value} {ys : List Nat} (h : Duo w w1 B p N n pr M m) (hs : BySl w1 sv ys) (hy : Bs ys) (hd : ∀ k, sv.ownBlock = some k → k < B) (hn : m ≤ 100000000) (hl : ys.length ≤ 1000000) (N' n' : Nat) (hN : M + num ys * 2 ^ up8 m = N') (hn' : up8 m + 8 * ys.length = n') :
    Calls Try.prog 26 #[.pointer (some ⟨pr, 0, none⟩), sv] w1 fun e w' => e = .returned (.tuple #[]) ∧ Duo w w' B p N n pr N' n' := by
  obtain ⟨g, gr, l, h1, h2, rfl, rfl, h5, h6⟩ := h
  exact ((RfTo.refl h2).raw hs hy (fun k a b => by have := hd k a; have := (h2.foot b).1; omega) hn hl N' n' hN hn').mono fun _ _ ⟨he, hp⟩ => ⟨he, Duo.ofRf h1 h2 h5 h6 hp⟩

def DuoROut (w w1 : World) (B p N n pr M m : Nat) (e : Ending) (w2 : World) : Prop :=
  ∃ bs a c, e = .returned (.slice a bs.length c) ∧ Bs bs ∧ bs.length = (m + 7) / 8 ∧ num bs = M ∧ BySl w2 (.slice a bs.length c) bs ∧ Duo w w2 B p N n pr M m ∧ Touch (fun _ => False) w1 w2

theorem Duo.rout {w w1 : World} {B p N n pr M m : Nat} (h : Duo w w1 B p N n pr M m) (hn : m ≤ 100000000) :
    Calls Try.prog 29 #[.pointer (some ⟨pr, 0, none⟩)] w1 (DuoROut w w1 B p N n pr M m) := by
  have hD := h
  obtain ⟨g, gr, l, h1, h2, rfl, rfl, h5, h6⟩ := h
  refine ((RfTo.refl h2).out hn).mono ?_
  rintro e w2 ⟨bs, a, c, he, k1, k2, k3, hs, _, ht2⟩
  exact ⟨bs, a, c, he, k1, k2, k3, hs, hD.still ht2, ht2⟩

theorem Duo.rcell {w w1 : World} {B p N n pr M m : Nat} (h : Duo w w1 B p N n pr M m) : ∃ a c, w1.cell? ⟨pr, 0, none⟩ = some (.slice a m c) := by
  obtain ⟨g, gr, l, h1, h2, rfl, rfl, h5, h6⟩ := h
  obtain ⟨sv, s1, s2, s3⟩ := h2.blk
  obtain ⟨a, c, rfl⟩ := own_shape s3
  exact ⟨a, c, (one_cell s1).1⟩

theorem Duo.same {n N : Nat} {xs ys : List Nat} (hx : WI xs n) (bx : Bs xs) (nx : num xs = N) (by_ : Bs ys) (ly : ys.length = (n + 7) / 8) (ny : num ys = N) : xs = ys := by
  have h1 := hx.lo; have h2 := hx.hi
  exact num_inj bx by_ (by omega) (by rw [nx, ny])

/-- The first state. -/
theorem Duo.start {w w1 : World} {B p : Nat} (h : WrT w w1 B p 0 0) (hB : B ≤ w1.heap.size) : Duo w (w1.alloc (.cells #[.slice none 0 0] 46)) B p 0 0 w1.heap.size 0 0 := by
  obtain ⟨g, hw, ht⟩ := h
  have hT : Touch (fun _ => False) w1 (w1.alloc (.cells #[.slice none 0 0] 46)) := (Touch.refl _ w1).alloc _
  refine ⟨g, none, [], hw.touch hT (fun _ _ h => h), ⟨⟨.slice none 0 0, heap_alloc_new w1 _, rfl, World.ownsRow_nil _ _ _ _⟩, hB, fun x h => by cases h⟩, rfl, rfl, fun k a b => ?_, ht.alloc _⟩
  rcases b with rfl | b
  · have := (hw.foot a).2; omega
  · cases b

end Go.Proofs.Ytjbjjnfhklpffaa
