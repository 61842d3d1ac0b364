/-
  Two rows of the call's own that grow: kinds, fields; a row of rows of bytes, opened.
-/
import Derived.Test.YtflabomkgkojlaaV
import Derived.Test.YtflabomkgkojlaaS
namespace Go.Proofs.Ytflabomkgkojlaa
open Go.ChangeShapes Go.WideShapes Go.RowKit

structure El where
  ao : Option Addr
  c : Nat
  b : List Nat
instance : Inhabited El := ⟨⟨none, 0, []⟩⟩

structure EltAt (w : World) (p : Addr) (x : El) : Prop where
  cell : w.cell? p = some (.slice x.ao x.b.length x.c)
  sl : Sl w x.ao x.c x.b
def LstF (w : World) (a : Option Addr) (n : Nat) (f : Nat → El) : Prop :=
  n = 0 ∨ ∃ b off, a = some ⟨b, off, none⟩ ∧ ∀ i, i < n → EltAt w ⟨b, off + i, none⟩ (f i)
theorem EltAt.below {w w' : World} {p : Addr} {x : El} (h : EltAt w p x) (hb : Below w.heap.size w w') : EltAt w' p x :=
  ⟨(hb.cell (World.block_lt_of_cell? w _ h.cell)).trans h.cell, h.sl.below hb⟩
theorem LstF.get {w w' : World} {a : Option Addr} {n : Nat} {f : Nat → El} (h : LstF w a n f) (hb : Below w.heap.size w w') {i : Nat} (hi : i < n) : ∃ b off, a = some ⟨b, off, none⟩ ∧ EltAt w' ⟨b, off + i, none⟩ (f i) := by
  rcases h with h | ⟨b, off, rfl, hc⟩
  · omega
  · exact ⟨b, off, rfl, (hc i hi).below hb⟩

section
variable {H : Type} {enc : TypeId × Value → H} {w : World} {base : Nat} {spare : Nat → Bool} {held : Bool} {fuel : Nat}
theorem elt_open {sv : Value} {y : DataW H × List MemPlace} (h : DataW.trod enc Try.prog w base spare held fuel 22 [sv] = some y) : ∃ x : El, sv = .slice x.ao x.b.length x.c ∧ Sl w x.ao x.c x.b := by
  rcases open_ints Try.underlying22 Try.underlying5 (by kernel_rfl) h with ⟨hcs, _⟩ | ⟨ad, l, c, zs, hcs, _⟩
  · simp only [List.cons.injEq, and_true] at hcs
    exact ⟨⟨none, 0, []⟩, hcs, Sl.none_ w⟩
  · simp only [List.cons.injEq, and_true] at hcs
    subst hcs
    obtain ⟨xs, hx, hs⟩ := sl_open h
    exact ⟨⟨some ad, c, xs⟩, by rw [hx], hs⟩
theorem cells22 : Try.prog.cellsOf 22 = 1 := by kernel_rfl
theorem lst_open {a : Option Addr} {len cap : Nat} {y : DataW H × List MemPlace} (h : DataW.trod enc Try.prog w base spare held fuel 46 [.slice a len cap] = some y) : ∃ f, LstF w a len f ∧ len ≤ maxLen := by
  rcases Go.Deep.open_slice Try.underlying46 h with ⟨h0, _⟩ | ⟨ad, l, c, m, n, D, Pl, hcs, _, hl, hm, hmm, _, hi⟩
  · simp at h0
    exact ⟨fun _ => default, .inl h0.2.1, by omega⟩
  · simp at hcs
    obtain ⟨rfl, rfl, rfl⟩ := hcs
    have hlm : len ≤ m := by rw [hmm]; split <;> omega
    have hE : ∀ i, i < len → ∃ x : El, w.cell? (ad.add i) = some (.slice x.ao x.b.length x.c) ∧ Sl w x.ao x.c x.b := by
      intro i hil
      obtain ⟨cs', hc, ht⟩ := hi i (by omega)
      rw [cells22, Nat.mul_one] at hc
      obtain ⟨_, hlen, hat⟩ := World.cells?_some hc
      match cs', hlen with
      | [sv], _ =>
        have h0 := hat 0 (by omega)
        rw [show (ad.add i).add 0 = ad.add i from by simp [Addr.add]] at h0
        obtain ⟨x, rfl, hs⟩ := elt_open ht
        exact ⟨x, h0, hs⟩
    obtain ⟨f, hf⟩ := Go.Deep.choose_lt (α := El) (p := fun i x => w.cell? (ad.add i) = some (.slice x.ao x.b.length x.c) ∧ Sl w x.ao x.c x.b) hE
    refine ⟨f, ?_, by omega⟩
    by_cases h0 : len = 0
    · exact .inl h0
    · right
      have hc0 := (hf 0 (by omega)).1
      obtain ⟨b, off, spot⟩ := ad
      have hspot : spot = none := by simpa [Addr.add] using World.cell?_spot hc0
      subst hspot
      refine ⟨b, off, rfl, fun i hil => ?_⟩
      obtain ⟨h1, h2⟩ := hf i hil
      rw [Addr.add_lit] at h1
      exact ⟨h1, h2⟩
end

/-- Kinds and fields, each in a row of the call's own. -/
structure Bk (w : World) (ko : Option Addr) (kc : Nat) (fo : Option Addr) (fc m1 m2 : Nat) (ks : List Int) (l : List Fe) (wr : World) : Prop where
  k : wr.ownsRow w.heap.size 36 1 (.slice ko m1 kc) m1 (kv ks)
  hk : ks.length = m1
  f : FOwn wr w.heap.size 48 (.slice fo m2 fc) l
  hl : l.length = m2
  arg : ∀ x ∈ l, x.f.b ≠ [] → ∀ ad, x.ao = some ad → ad.block < w.heap.size
  below : Below w.heap.size w wr

theorem own_apart {w : World} {b1 b2 e1 e2 s1 s2 n1 n2 : Nat} {v1 v2 : Value} {x1 x2 : List Value} (h1 : w.ownsRow b1 e1 s1 v1 n1 x1) (h2 : w.ownsRow b2 e2 s2 v2 n2 x2) (hne : e1 ≠ e2) (k : Nat) (hk : v1.ownBlock = some k) : v2.ownBlock ≠ some k := by
  intro hk2
  rcases h1.2 with ⟨rfl, _⟩ | ⟨g1, c1, u1, rfl, _, hh1, _⟩
  · simp [Value.ownBlock] at hk
  · rcases h2.2 with ⟨rfl, _⟩ | ⟨g2, c2, u2, rfl, _, hh2, _⟩
    · simp [Value.ownBlock] at hk2
    · simp [Value.ownBlock] at hk hk2
      subst hk; subst hk2
      rw [hh1] at hh2
      simp at hh2
      exact hne hh2.2

theorem FOwn.touch {S : Nat → Prop} {w w' : World} {base e : Nat} {v : Value} {l : List Fe} (h : FOwn w base e v l) (ht : Touch S w w') (hv : ∀ k, v.ownBlock = some k → ¬ S k) (hl : ∀ x ∈ l, x.f.b ≠ [] → ∀ ad, x.ao = some ad → ¬ S ad.block) : FOwn w' base e v l :=
  ⟨ownsRow_touch h.own ht hv, fun x hx => (h.sl x hx).touch ht (hl x hx), h.apart⟩

section
variable {w wr w' : World} {ko ko' fo fo' : Option Addr} {kc kc' fc fc' m1 m2 : Nat} {ks : List Int} {l : List Fe}
theorem Bk.grow (h : Bk w ko kc fo fc m1 m2 ks l wr) (hb : Below wr.heap.size wr w') : Bk w ko kc fo fc m1 m2 ks l w' :=
  ⟨ownsRow_below h.k hb, h.hk, h.f.below hb, h.hl, h.arg, h.below.trans (hb.mono h.below.size)⟩
theorem Bk.addK (h : Bk w ko kc fo fc m1 m2 ks l wr) {k : Int} (hA : Apd wr w.heap.size 36 1 (.slice ko m1 kc) (m1 + 1) (kv ks ++ [.int .i64 k]) (.slice ko' (m1 + 1) kc') w') : Bk w ko' kc' fo fc (m1 + 1) m2 (ks ++ [k]) l w' := by
  refine ⟨by have := hA.own; rwa [show [Value.int .i64 k] = kv [k] from rfl, kv_app] at this, by rw [List.length_append, h.hk]; rfl, ?_, h.hl, h.arg, h.below.trans (hA.below h.k h.below.size)⟩
  refine h.f.touch hA.touch (fun k hk hs => own_apart h.k h.f.own (by omega) k hs hk) fun x hx hne ad had hs => ?_
  have h1 := h.arg x hx hne ad had
  have h2 := (h.k.lt _ hs).1
  omega
theorem Bk.addF (h : Bk w ko kc fo fc m1 m2 ks l wr) {x : Fe} (hx : Sl wr x.ao x.c x.f.b) (ha : x.f.b ≠ [] → ∀ ad, x.ao = some ad → ad.block < w.heap.size)
    (hA : Apd wr w.heap.size 48 3 (.slice fo m2 fc) (m2 + 1) (fcells l ++ x.cells) (.slice fo' (m2 + 1) fc') w') : Bk w ko kc fo' fc' m1 (m2 + 1) ks (l ++ [x]) w' := by
  have hfo : wr.ownsRow w.heap.size 48 3 (.slice fo m2 fc) m2 (fcells l) := by have := h.f.own; rwa [h.hl] at this
  refine ⟨ownsRow_touch h.k hA.touch fun k hk hs => own_apart h.k hfo (by omega) k hk hs, h.hk, ?_, by rw [List.length_append, h.hl]; rfl, fun y hy => ?_, h.below.trans (hA.below hfo h.below.size)⟩
  · refine h.f.app hx (fun hne ad had hs => ?_) (by rw [h.hl]; exact hA)
    have h1 := ha hne ad had
    have h2 := (hfo.lt _ hs).1
    omega
  · rcases List.mem_append.1 hy with hy | hy
    · exact h.arg y hy
    · rw [List.mem_singleton] at hy; subst hy; exact ha
theorem Bk.fo_ (h : Bk w ko kc fo fc m1 m2 ks l wr) : wr.ownsRow w.heap.size 48 3 (.slice fo m2 fc) m2 (fcells l) := by have := h.f.own; rwa [h.hl] at this
theorem Bk.fs (h : Bk w ko kc fo fc m1 m2 ks l wr) : Fs wr fo l := by have := h.f; rw [← h.hl] at this; exact this.fs
theorem Bk.ks_ (h : Bk w ko kc fo fc m1 m2 ks l wr) : KSrc wr ko ks := own_ks h.k h.hk
end

/-- The fields that the law makes. -/
def lN (kd : Int) (f : Nat → El) (i : Nat) : List Fe := (List.range i).map fun j => ⟨⟨kd, (f j).b.length, []⟩, none, 0⟩
def lB (f : Nat → El) (i : Nat) : List Fe := (List.range i).map fun j => ⟨⟨2, 0, (f j).b⟩, (f j).ao, (f j).c⟩
def bls (f : Nat → El) (i : Nat) : List (List Nat) := (List.range i).map fun j => (f j).b
theorem lN_succ (kd : Int) (f : Nat → El) (i : Nat) : lN kd f (i + 1) = lN kd f i ++ [⟨⟨kd, (f i).b.length, []⟩, none, 0⟩] := by simp [lN, List.range_succ]
theorem lB_succ (f : Nat → El) (i : Nat) : lB f (i + 1) = lB f i ++ [⟨⟨2, 0, (f i).b⟩, (f i).ao, (f i).c⟩] := by simp [lB, List.range_succ]
theorem lN_len (kd : Int) (f : Nat → El) (i : Nat) : (lN kd f i).length = i := by simp [lN]
theorem lB_len (f : Nat → El) (i : Nat) : (lB f i).length = i := by simp [lB]
theorem bls_len (f : Nat → El) (i : Nat) : (bls f i).length = i := by simp [bls]
theorem lN_map (kd : Int) (f : Nat → El) (i : Nat) : (lN kd f i).map (·.f) = (bls f i).map (fN kd) := by simp [lN, bls, fN]
theorem lB_map (f : Nat → El) (i : Nat) : (lB f i).map (·.f) = (bls f i).map fB := by simp [lB, bls, fB]
theorem wrt_back {kd : Int} {sz : Nat} (W : Wd kd sz) (bl : List (List Nat)) : wrt (bl.map (fN kd) ++ bl.map fB) = hdr bl sz ++ bl.flatten := by
  have h1 : ∀ bl : List (List Nat), wrt (bl.map (fN kd)) = hdr bl sz := fun bl => by
    induction bl with
    | nil => rfl
    | cons b r ih =>
      rw [List.map_cons, hdr_cons, ← ih]
      rcases W.w with ⟨rfl, rfl⟩ | ⟨rfl, rfl⟩ <;> simp [wrt, wf, fN]
  have h2 : ∀ bl : List (List Nat), wrt (bl.map fB) = bl.flatten := fun bl => by
    induction bl with
    | nil => rfl
    | cons b r ih =>
      rw [List.map_cons, List.flatten_cons, ← ih]
      simp [wrt, wf, fB]
  rw [← h1, ← h2]
  simp [wrt]
end Go.Proofs.Ytflabomkgkojlaa
