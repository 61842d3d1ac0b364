/-
  A writer, the reference's bits, and a variable beside them.
-/
import Derived.Test.YtjbjjnfhklpffaaYc
namespace Go.Proofs.Ytjbjjnfhklpffaa
open Go.RowKit

/-- A writer, the reference's bits, and a block cb beside them that holds o. -/
def DuoC (w w1 : World) (B p N n pr M m cb : Nat) (o : Obj) : Prop :=
  ∃ g gr l, Wr w1 B p g N n ∧ Rf w1 B pr gr l ∧ l.length = m ∧ bnum l = M ∧ (∀ k, Foot p g k → ¬ Foot pr gr k) ∧ Touch (U B) w w1 ∧ w1.heap[cb]? = some o ∧ ¬ Foot p g cb ∧ ¬ Foot pr gr cb

theorem Duo.box {w w1 : World} {B p N n pr M m : Nat} (h : Duo w w1 B p N n pr M m) (o : Obj) : DuoC w (w1.alloc o) B p N n pr M m w1.heap.size o := by
  obtain ⟨g, gr, l, h1, h2, h3, h4, h5, h6⟩ := h
  have ht : Touch (fun _ => False) w1 (w1.alloc o) := (Touch.refl _ w1).alloc o
  exact ⟨g, gr, l, h1.touch ht (fun _ _ h => h), h2.touch ht (fun _ _ h => h), h3, h4, h5, h6.alloc o, heap_alloc_new w1 o, fun a => by have := (h1.foot a).2; omega, fun a => by have := (h2.foot a).2; omega⟩

theorem DuoC.forget {w w1 : World} {B p N n pr M m cb : Nat} {o : Obj} (h : DuoC w w1 B p N n pr M m cb o) : Duo w w1 B p N n pr M m := by
  obtain ⟨g, gr, l, h1, h2, h3, h4, h5, h6, _⟩ := h
  exact ⟨g, gr, l, h1, h2, h3, h4, h5, h6⟩

theorem DuoC.blk {w w1 : World} {B p N n pr M m cb : Nat} {o : Obj} (h : DuoC w w1 B p N n pr M m cb o) : w1.heap[cb]? = some o := by
  obtain ⟨g, gr, l, h1, h2, h3, h4, h5, h6, h7, _⟩ := h
  exact h7

theorem four_cell {w : World} {p : Nat} {a b c d : Value} {t : TypeId} (h : w.heap[p]? = some (.cells #[a, b, c, d] t (0, 0))) :
    w.cell? ⟨p, 0, none⟩ = some a ∧ w.cell? ⟨p, 1, none⟩ = some b ∧ w.cell? ⟨p, 2, none⟩ = some c ∧ w.cell? ⟨p, 3, none⟩ = some d := by
  simp [World.cell?, h]

theorem DuoC.ofPut {w w1 w2 : World} {B p N n N' n' pr M m cb : Nat} {o : Obj} {g gr : Option Nat} {l : List Nat} (h1 : Wr w1 B p g N n) (h2 : Rf w1 B pr gr l) (h3 : l.length = m) (h4 : bnum l = M) (h5 : ∀ k, Foot p g k → ¬ Foot pr gr k) (h6 : Touch (U B) w w1) (h7 : w1.heap[cb]? = some o) (h8 : ¬ Foot p g cb) (h9 : ¬ Foot pr gr cb) (hp : PutTo w1 B p g N' n' w2) : DuoC w w2 B p N' n' pr M m cb o := by
  obtain ⟨g', hw', ht', hr⟩ := hp
  have hlt := lt_of_block h7
  refine ⟨g', gr, l, hw', h2.touch ht' (fun k a b => h5 k b a), h3, h4, fun k a b => ?_, h6.trans (ht'.mono fun k hk => (h1.foot hk).1), (ht'.block cb hlt h8).trans h7, fun a => ?_, h9⟩
  · rcases a with rfl | a
    · exact h5 _ (.inl rfl) b
    · rcases hr k a with c | c
      · exact h5 _ (.inr c) b
      · have := (h2.foot b).2; omega
  · rcases a with a | a
    · exact h8 (.inl a)
    · rcases hr cb a with c | c
      · exact h8 (.inr c)
      · omega

theorem DuoC.wput {w w1 : World} {B p N n pr M m cb : Nat} {o : Obj} (h : DuoC w w1 B p N n pr M m cb o) (hn : n ≤ 7000000000) (v k N' n' : Nat) (hv : v < 4294967296) (hk : k ≤ 32) (hN : N + v % 2 ^ k * 2 ^ n = N') (hn' : n + k = n') :
    Calls Try.prog 21 #[.pointer (some ⟨p, 0, none⟩), .int .u32 v, .int .i64 k] w1 fun e w' => e = .returned (.tuple #[]) ∧ DuoC w w' B p N' n' pr M m cb o := by
  subst hN; subst hn'
  obtain ⟨g, gr, l, h1, h2, h3, h4, h5, h6, h7, h8, h9⟩ := h
  exact (h1.put hn v k _ hv hk rfl).mono fun _ _ ⟨he, hp⟩ => ⟨he, DuoC.ofPut h1 h2 h3 h4 h5 h6 h7 h8 h9 hp⟩

theorem DuoC.wraw {w w1 : World} {B p N n pr M m cb : Nat} {o : Obj} {sv : Value} {ys : List Nat} (h : DuoC w w1 B p N n pr M m cb o) (hs : BySl w1 sv ys) (hy : Bs ys) (hn : n ≤ 7000000000) (hl : ys.length ≤ 1000000) (N' n' : Nat) (hN : N + num ys * 2 ^ up8 n = N') (hn' : up8 n + 8 * ys.length = n') :
    Calls Try.prog 25 #[.pointer (some ⟨p, 0, none⟩), sv] w1 fun e w' => e = .returned (.tuple #[]) ∧ DuoC w w' B p N' n' pr M m cb o := by
  obtain ⟨g, gr, l, h1, h2, h3, h4, h5, h6, h7, h8, h9⟩ := h
  exact (h1.raw hs hy hn hl N' n' hN hn').mono fun _ _ ⟨he, hp⟩ => ⟨he, DuoC.ofPut h1 h2 h3 h4 h5 h6 h7 h8 h9 hp⟩

theorem DuoC.bysl {w w1 : World} {B p N n pr M m cb : Nat} {o : Obj} {sv : Value} {ys : List Nat} (h : DuoC w w1 B p N n pr M m cb o) (hs : BySl w sv ys) (hk : 0 < ys.length → ∀ k, sv.ownBlock = some k → k < B) : BySl w1 sv ys := by
  have ht := h.forget.touchU
  by_cases h0 : ys.length = 0
  · have hx := List.eq_nil_of_length_eq_zero h0
    subst hx
    rcases hs with h | ⟨ad, c, e, hc, _⟩
    · exact .inl h
    · exact .inr ⟨ad, c, e, hc, fun j u hu => by simp [u8s] at hu⟩
  · exact hs.touch ht fun k a hu => by have := hk (by omega) k a; unfold U at hu; omega

theorem rraw_empty {w w1 : World} {base p : Nat} {g : Option Nat} {N n : Nat} {sv : Value} (h : RfTo w base p g N n w1) (hn : n ≤ 1000000000) (hs : BySl w1 sv []) :
    Calls Try.prog 26 #[.pointer (some ⟨p, 0, none⟩), sv] w1 fun e w' => e = .returned (.tuple #[]) ∧ RfTo w base p g N (up8 n) w' := by
  have HAL := Lib.hid (h.align hn)
  obtain ⟨a, c, rfl⟩ := hs.shape
  clear h hs
  go_enter Try.func26, Try.ntmps26
  go_wp2_with fail
  refine HAL.out.mono ?_
  rintro e w2 ⟨rfl, hR2⟩
  go_wp2_with fail
  refine wp_loop_rounds 1 ?_
  rw [rounds_succ]
  go_wp2
  go_end0
  exact ⟨rfl, hR2⟩

/-- Raw of the reference, where what is handed in lies below, or is empty. -/
theorem Duo.rraw' {w w1 : World} {B p N n pr M m : Nat} {sv : Value} {ys : List Nat} (h : Duo w w1 B p N n pr M m) (hs : BySl w1 sv ys) (hy : Bs ys) (hd : 0 < ys.length → ∀ k, sv.ownBlock = some k → k < B) (hn : m ≤ 100000000) (hl : ys.length ≤ 1000000) (N' n' : Nat) (hN : M + num ys * 2 ^ up8 m = N') (hn' : up8 m + 8 * ys.length = n') :
    Calls Try.prog 26 #[.pointer (some ⟨pr, 0, none⟩), sv] w1 fun e w' => e = .returned (.tuple #[]) ∧ Duo w w' B p N n pr N' n' := by
  by_cases h0 : ys.length = 0
  · have hx := List.eq_nil_of_length_eq_zero h0
    subst hx
    obtain ⟨g, gr, l, h1, h2, rfl, rfl, h5, h6⟩ := h
    have e1 : bnum l = N' := by rw [← hN]; simp [num]
    have e2 : up8 l.length = n' := by rw [← hn']; simp
    subst e1; subst e2
    exact (rraw_empty (RfTo.refl h2) (by omega) hs).mono fun _ _ ⟨he, hp⟩ => ⟨he, Duo.ofRf h1 h2 h5 h6 hp⟩
  · exact h.rraw hs hy (hd (by omega)) hn hl N' n' hN hn'

end Go.Proofs.Ytjbjjnfhklpffaa
