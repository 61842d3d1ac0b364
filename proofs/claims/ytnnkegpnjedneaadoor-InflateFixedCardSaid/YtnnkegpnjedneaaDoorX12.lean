import Derived.Test.YtnnkegpnjedneaaDoorX9
/-
  A fixed block that was put piece by piece, plainly.
-/
namespace Go.Proofs.YtnnkegpnjedneaaDoor
set_option maxRecDepth 100000

/-- Pieces: a number and its width, one behind the other. -/
def val : List (Nat × Nat) → Nat
  | [] => 0
  | c :: r => c.1 + 2 ^ c.2 * val r
def wid : List (Nat × Nat) → Nat
  | [] => 0
  | c :: r => c.2 + wid r
structure Str (bs : List Nat) (p : Nat) (cs : List (Nat × Nat)) : Prop where
  is_ : ∃ R, num bs / 2 ^ p = val cs + 2 ^ wid cs * R
  len : p + wid cs ≤ 8 * bs.length
section
variable {bs : List Nat} {lim : Nat} {s : Sta}
theorem Str.next {p X k : Nat} {cs : List (Nat × Nat)} (h : Str bs p ((X, k) :: cs)) (hX : X < 2 ^ k) : pk bs p k = X ∧ p + k ≤ 8 * bs.length ∧ Str bs (p + k) cs := by
  obtain ⟨⟨R, hR⟩, hl⟩ := h
  have e : num bs / 2 ^ p = X + 2 ^ k * (val cs + 2 ^ wid cs * R) := by
    rw [hR, val, wid, Nat.pow_add, Nat.mul_add, Nat.mul_assoc, Nat.add_assoc]
  simp only [wid] at hl
  refine ⟨?_, by omega, ⟨R, ?_⟩, by omega⟩
  · unfold pk
    rw [e, Nat.add_mul_mod_self_left, Nat.mod_eq_of_lt hX]
  · rw [Nat.pow_add, ← Nat.div_div_eq_div_mul, e, Nat.add_mul_div_left _ _ (Nat.two_pow_pos k), Nat.div_eq_of_lt hX, Nat.zero_add]
theorem rdN_str {X k : Nat} {cs : List (Nat × Nat)} (h : Str bs s.at_ ((X, k) :: cs)) (hX : X < 2 ^ k) : rdN bs k s = .ok X { s with at_ := s.at_ + k } ∧ Str bs (s.at_ + k) cs := by
  obtain ⟨h1, h2, h3⟩ := h.next hX
  refine ⟨?_, h3⟩
  unfold rdN
  rw [if_pos h2, h1]
def cp (ls : List Nat) (y : Nat) : Nat × Nat := (rv (ln ls y) (cd ls y), ln ls y)
theorem rdS_str {ls : List Nat} (H : Ok ls) {y : Nat} (hy : ln ls y ≠ 0) {cs : List (Nat × Nat)} (h : Str bs s.at_ (cp ls y :: cs)) : rdS bs ls s = .ok y { s with at_ := s.at_ + ln ls y } ∧ Str bs (s.at_ + ln ls y) cs := by
  obtain ⟨h1, h2, h3⟩ := h.next (rv_lt _ _)
  refine ⟨?_, h3⟩
  have hb := (beg_pk H hy).2 h1
  rw [rdS_some (by omega) (findB_of H hb), if_pos h2]
theorem syms_lits {fl ol : List Nat} (H : Ok fl) (cs : List (Nat × Nat)) : ∀ (l : List Nat) (s : Sta), (∀ y ∈ l, y < 256 ∧ ln fl y ≠ 0) → Str bs s.at_ (l.map (cp fl) ++ cs) → s.out.length + l.length ≤ lim →
    syms bs lim fl ol s = syms bs lim fl ol ⟨s.at_ + wid (l.map (cp fl)), s.out ++ l, s.steps + l.length, s.blocks⟩ ∧ Str bs (s.at_ + wid (l.map (cp fl))) cs := by
  intro l
  induction l with
  | nil => intro s _ h _; exact ⟨by simp [wid], by simpa [wid] using h⟩
  | cons y l ih =>
    intro s hl h hlim
    obtain ⟨h1, h2⟩ := rdS_str H (hl y (by simp)).2 (cs := l.map (cp fl) ++ cs) (by simpa using h)
    have hin : s.at_ ≤ 8 * bs.length := by have := h.len; omega
    simp only [List.length_cons] at hlim
    have h3 := ih { s with at_ := s.at_ + ln fl y, steps := s.steps + 1, out := s.out ++ [y] } (fun z hz => hl z (by simp [hz])) h2 (by simp; omega)
    rw [syms_eq hin, h1, Res.bind_ok, if_pos (hl y (by simp)).1, if_neg (by simp only; omega), h3.1]
    refine ⟨?_, ?_⟩
    · simp only [List.map_cons, wid, cp, List.append_assoc, List.singleton_append, List.length_cons]
      congr 2 <;> omega
    · have := h3.2
      simp only [List.map_cons, wid, cp] at this ⊢
      rwa [← Nat.add_assoc]
theorem fixF_all : ∀ y, y < 288 → ln fixF y ≠ 0 := by decide +kernel
theorem fixO_all : ∀ y, y < 32 → ln fixO y ≠ 0 := by decide +kernel
theorem len_some {y b n : Nat} (h : lenOf y = some (b, n)) : 257 ≤ y ∧ y ≤ 285 := by
  unfold lenOf at h
  split at h
  · cases h
  · omega
theorem dis_some {y b n : Nat} (h : disOf y = some (b, n)) : y ≤ 29 := by
  unfold disOf at h
  split at h
  · cases h
  · omega
/-- The pieces of the law's block. -/
def pieces (lit : List Nat) (sym extra n far more m : Nat) : List (Nat × Nat) := (1, 1) :: (1, 2) :: (lit.map (cp fixF) ++ [cp fixF sym, (extra, n), cp fixO far, (more, m), cp fixF 256])
theorem infl_fixed {lit : List Nat} {sym extra n far more m base dist : Nat} (hb : Bs bs) (hl : Bs lit) (h1 : lenOf sym = some (base, n)) (h2 : disOf far = some (dist, m)) (he : extra < 2 ^ n) (hm : more < 2 ^ m) (hS : Str bs 0 (pieces lit sym extra n far more m)) (hlim : lit.length + (base + extra) ≤ lim) :
    infl bs lim = if lit.length < dist + more then .bad 10 else .ok () ⟨wid (pieces lit sym extra n far more m), back (dist + more) (base + extra) lit, lit.length + 2, 1⟩ := by
  have hs1 := len_some h1
  have hs2 := dis_some h2
  obtain ⟨r1, S1⟩ := rdN_str (s := st0) hS (by decide)
  obtain ⟨r2, S2⟩ := rdN_str (s := { st0 with at_ := st0.at_ + 1 }) S1 (by decide)
  have S2' : Str bs 3 (lit.map (cp fixF) ++ [cp fixF sym, (extra, n), cp fixO far, (more, m), cp fixF 256]) := S2
  obtain ⟨k1, S3⟩ := syms_lits (lim := lim) (ol := fixO) fixF_okW.1 [cp fixF sym, (extra, n), cp fixO far, (more, m), cp fixF 256] lit ⟨3, [], 0, 0⟩ (fun y hy => ⟨hl y hy, fixF_all y (by have := hl y hy; omega)⟩) S2' (by simp; omega)
  obtain ⟨q, hq⟩ : ∃ q, q = 3 + wid (lit.map (cp fixF)) := ⟨_, rfl⟩
  simp only [List.nil_append, Nat.zero_add] at k1 S3
  rw [← hq] at k1 S3
  obtain ⟨r4, S4⟩ := rdS_str (s := ⟨q, lit, lit.length, 0⟩) fixF_okW.1 (fixF_all sym (by omega)) S3
  have e5 : 256 ≤ sym := by omega
  obtain ⟨r5, S5⟩ := rdN_str (s := ⟨q + ln fixF sym, lit, lit.length + 1, 0⟩) S4 he
  obtain ⟨r6, S6⟩ := rdS_str (s := ⟨q + ln fixF sym + n, lit, lit.length + 1, 0⟩) fixO_okW.1 (fixO_all far (by omega)) S5
  obtain ⟨r7, S7⟩ := rdN_str (s := ⟨q + ln fixF sym + n + ln fixO far, lit, lit.length + 1, 0⟩) S6 hm
  have hin : q ≤ 8 * bs.length := by have := S3.len; omega
  have hag : again bs lim fixO sym ⟨q + ln fixF sym, lit, lit.length + 1, 0⟩ = if lit.length < dist + more then .bad 10 else .ok () ⟨q + ln fixF sym + n + ln fixO far + m, back (dist + more) (base + extra) lit, lit.length + 1, 0⟩ := by
    unfold again
    rw [h1]
    unfold grown
    simp only
    rw [r5, Res.bind_ok, Res.bind_ok, r6, Res.bind_ok, h2]
    simp only
    rw [r7, Res.bind_ok, Res.bind_ok]
    simp only
    split
    · rfl
    · rw [if_neg (by omega)]
  have hsy : syms bs lim fixF fixO ⟨q, lit, lit.length, 0⟩ = if lit.length < dist + more then .bad 10 else .ok () ⟨wid (pieces lit sym extra n far more m), back (dist + more) (base + extra) lit, lit.length + 2, 0⟩ := by
    rw [syms_eq hin, r4, Res.bind_ok, if_neg (by omega), if_neg (by omega)]
    simp only
    rw [hag]
    split
    · rfl
    · rw [Res.bind_ok]
      obtain ⟨r8, S9⟩ := rdS_str (s := ⟨q + ln fixF sym + n + ln fixO far + m, back (dist + more) (base + extra) lit, lit.length + 1, 0⟩) fixF_okW.1 (fixF_all 256 (by omega)) S7
      have hle : q + ln fixF sym + n + ln fixO far + m + wid [cp fixF 256] ≤ 8 * bs.length := S7.len
      rw [syms_eq (show q + ln fixF sym + n + ln fixO far + m ≤ _ by omega), r8, Res.bind_ok, if_neg (by decide), if_pos rfl]
      have e9 : wid (pieces lit sym extra n far more m) = q + ln fixF sym + n + ln fixO far + m + ln fixF 256 := by
        have hw : ∀ (l r : List (Nat × Nat)), wid (l ++ r) = wid l + wid r := fun l r => by
          induction l with
          | nil => simp [wid]
          | cons c l ih => simp only [List.cons_append, wid, ih]; omega
        rw [hq]
        simp only [pieces, wid, hw, cp]
        omega
      rw [e9]
  have hin0 : st0.at_ ≤ 8 * bs.length := Nat.zero_le _
  unfold infl
  rw [run_eq (blk1_takes hb) () hin0]
  unfold blk1 blk
  rw [r1, Res.bind_ok, r2, Res.bind_ok, if_neg (by decide), if_pos rfl]
  have e3 : ({ at_ := st0.at_ + 1 + 2, out := st0.out, steps := st0.steps, blocks := st0.blocks } : Sta) = ⟨3, [], 0, 0⟩ := rfl
  simp only [e3, k1, hsy]
  split
  · rfl
  · rfl
end
end Go.Proofs.YtnnkegpnjedneaaDoor

/-
  A writer of pieces, and a row beside it.
-/
namespace Go.Proofs.YtnnkegpnjedneaaDoor
open Go.RowKit
set_option maxRecDepth 100000

theorem wid_app (l r : List (Nat × Nat)) : wid (l ++ r) = wid l + wid r := by
  induction l with
  | nil => simp [wid]
  | cons c l ih => simp only [List.cons_append, wid, ih]; omega
theorem val_snoc (l : List (Nat × Nat)) (c : Nat × Nat) : val (l ++ [c]) = val l + c.1 * 2 ^ wid l := by
  induction l with
  | nil => simp [val, wid]
  | cons d l ih =>
    rw [List.cons_append, val, val, ih, wid, Nat.pow_add, Nat.mul_add, ← Nat.add_assoc]
    congr 1
    rw [← Nat.mul_assoc, Nat.mul_comm (2 ^ d.2) c.1, Nat.mul_assoc]
/-- The writer holds these pieces; the row holds these bytes. -/
structure Pw (B : Nat) (w wr : World) (pw : Nat) (g : Option Nat) (cs : List (Nat × Nat)) (v : Value) (out : List Nat) : Prop where
  wr_ : Wr wr B pw g (val cs) (wid cs)
  own : wr.ownsRow B 5 1 v out.length (u8s out)
  ne : ∀ k, v.ownBlock = some k → ¬ Foot pw g k
  below : Below B w wr
  size : B ≤ wr.heap.size
section
variable {B pw : Nat} {w wr w' : World} {g : Option Nat} {cs : List (Nat × Nat)} {v v' : Value} {out ys : List Nat}
theorem Pw.put {N n : Nat} {c : Nat × Nat} (h : Pw B w wr pw g cs v out) (k : PutTo wr B pw g N n w') (hN : N = val cs + c.1 * 2 ^ wid cs) (hn : n = wid cs + c.2) : ∃ g', Pw B w w' pw g' (cs ++ [c]) v out := by
  obtain ⟨g', hw, ht, hr⟩ := k
  refine ⟨g', ?_, ownsRow_touch h.own ht fun i hi hs => h.ne i hi hs, fun i hi hf => ?_, h.below.trans (ht.below h.size fun i hi => (h.wr_.foot hi).1), Nat.le_trans h.size ht.size⟩
  · rw [val_snoc, wid_app, ← hN]
    show Wr w' B pw g' N (wid cs + (c.2 + 0))
    rw [Nat.add_zero, ← hn]
    exact hw
  · rcases hf with hf | hf
    · exact h.ne i hi (.inl hf)
    · rcases hr i hf with h1 | h1
      · exact h.ne i hi (.inr h1)
      · have := (h.own.lt i hi).2
        omega
theorem Pw.app (h : Pw B w wr pw g cs v out) (k : Apd wr B v ys v' w') : Pw B w w' pw g cs v' ys := by
  refine ⟨h.wr_.touch k.touch fun i hi hs => h.ne i hs hi, k.own, fun i hi hf => ?_, h.below.trans (k.touch.below h.size fun i hi => (h.own.lt i hi).1), Nat.le_trans h.size k.touch.size⟩
  rcases k.row i hi with h1 | h1
  · exact h.ne i h1 hf
  · have := (h.wr_.foot hf).2
    omega
theorem Pw.grow (h : Pw B w wr pw g cs v out) (hb : Below wr.heap.size wr w') : Pw B w w' pw g cs v out :=
  ⟨h.wr_.touch (Touch.of_below hb : Touch (fun _ => False) wr w') fun _ _ h => h, ownsRow_touch h.own (Touch.of_below hb : Touch (fun _ => False) wr w') fun _ _ h => h, h.ne, h.below.trans (hb.mono h.size), Nat.le_trans h.size hb.size⟩
theorem Pw.start {ho : Wr wr B pw g (val cs) (wid cs)} (hb : Below B w wr) (hB : B ≤ wr.heap.size) : Pw B w (wr.alloc (.cells #[] 5)) pw g cs (.slice (some ⟨wr.heap.size, 0, none⟩) 0 0) [] := by
  refine ⟨ho.touch ((Touch.refl (fun _ => False) wr).alloc _) fun _ _ h => h, own_base (own_lit0 wr) hB, fun k hk hf => ?_, hb.alloc hB _, Nat.le_trans hB (by rw [alloc_size]; omega)⟩
  simp only [Value.ownBlock, Option.some.injEq] at hk
  have := (ho.foot hf).2
  omega
/-- The bytes that Out tells hold the pieces. -/
theorem str_out {bs : List Nat} (hw : WI bs (wid cs)) (hN : num bs = val cs) : Str bs 0 cs := by
  refine ⟨⟨0, by rw [Nat.pow_zero, Nat.div_one, Nat.mul_zero, Nat.add_zero, hN]⟩, ?_⟩
  have := hw.lo
  have := hw.hi
  omega
end
end Go.Proofs.YtnnkegpnjedneaaDoor

