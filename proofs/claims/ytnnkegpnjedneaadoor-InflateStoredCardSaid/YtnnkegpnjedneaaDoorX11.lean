import Derived.Test.YtnnkegpnjedneaaDoorX9
import Derived.Deep.Slices
/-
  Stored blocks one behind the other, plainly.
-/
namespace Go.Proofs.YtnnkegpnjedneaaDoor
set_option maxRecDepth 100000

theorem pk_at {P : List Nat} (hP : Bs P) (R : List Nat) (j k : Nat) : pk (P ++ R) (8 * P.length + j) k = num R / 2 ^ j % 2 ^ k := by
  unfold pk
  rw [num_app, Nat.pow_add, ← Nat.div_div_eq_div_mul, ← pow256, Nat.add_mul_div_left _ _ (Nat.pow_pos (by omega)), Nat.div_eq_of_lt (num_lt hP), Nat.zero_add]

/-- The head of a stored block. -/
def hd (last n : Nat) : List Nat := [last, n % 256, n / 256, 255 - n % 256, 255 - n / 256]
theorem hd_bs {last n : Nat} (hl : last < 2) (hn : n ≤ 3000) : Bs (hd last n) := by
  intro x hx
  simp [hd] at hx
  omega
theorem blk1_stored {P xs Q : List Nat} {last lim : Nat} {s : Sta} (hP : Bs P) (_hx : Bs xs) (hl : last < 2) (hn : xs.length ≤ 3000) (hs : s.at_ = 8 * P.length) (hlim : s.out.length + xs.length ≤ lim) :
    blk1 (P ++ (hd last xs.length ++ xs ++ Q)) lim () s = .ok (decide (last = 1), ()) ⟨8 * (P.length + (5 + xs.length)), s.out ++ xs, s.steps + xs.length, s.blocks + 1⟩ := by
  obtain ⟨n, hnn⟩ : ∃ n, n = xs.length := ⟨_, rfl⟩
  obtain ⟨B, hB⟩ : ∃ B, B = P ++ (hd last xs.length ++ xs ++ Q) := ⟨_, rfl⟩
  have hBl : B.length = P.length + (5 + n + Q.length) := by rw [hB]; simp [hd]; omega
  obtain ⟨Z, hZ⟩ : ∃ Z, Z = num (xs ++ Q) := ⟨_, rfl⟩
  have hR : num (hd last xs.length ++ xs ++ Q) = last + 256 * (n % 256 + 256 * (n / 256 + 256 * (255 - n % 256 + 256 * (255 - n / 256 + 256 * Z)))) := by
    rw [hnn, hZ]; rfl
  have p0 : pk B (8 * P.length) 1 = last := by
    have := pk_at hP (hd last xs.length ++ xs ++ Q) 0 1
    rw [hR] at this
    rw [hB, ← Nat.add_zero (8 * P.length), this]
    omega
  have p1 : pk B (8 * P.length + 1) 2 = 0 := by
    rw [hB, pk_at hP, hR]
    omega
  have p2 : pk B (8 * P.length + 8) 16 = n := by
    rw [hB, pk_at hP, hR]
    omega
  have p3 : pk B (8 * P.length + 8 + 16) 16 = 65535 - n := by
    rw [hB, show 8 * P.length + 8 + 16 = 8 * P.length + 24 by omega, pk_at hP, hR, show (2 : Nat) ^ 24 = 16777216 from rfl, show (last + 256 * (n % 256 + 256 * (n / 256 + 256 * (255 - n % 256 + 256 * (255 - n / 256 + 256 * Z))))) / 16777216 = 255 - n % 256 + 256 * (255 - n / 256 + 256 * Z) by omega, show (2 : Nat) ^ 16 = 65536 from rfl]
    omega
  rw [← hB]
  unfold blk1 rdN
  rw [if_pos (by rw [hs, hBl]; omega), Res.bind_ok, hs, p0]
  unfold blk rdN
  simp only
  rw [if_pos (by rw [hBl]; omega), Res.bind_ok, p1, if_pos rfl]
  unfold stored rdN
  simp only
  rw [show up8 (8 * P.length + 1 + 2) = 8 * P.length + 8 by unfold up8; omega, if_pos (by rw [hBl]; omega), Res.bind_ok, p2]
  simp only
  rw [if_pos (by rw [hBl]; omega), Res.bind_ok, p3, if_neg (by simp), if_neg (by rw [hBl]; simp only; omega), if_neg (by simp only; omega), Res.bind_ok]
  have hd1 : (B.drop ((8 * P.length + 8 + 16 + 16) / 8)).take n = xs := by
    rw [show (8 * P.length + 8 + 16 + 16) / 8 = P.length + 5 by omega, hB, ← List.drop_drop, List.drop_left]
    show (xs ++ Q).take n = xs
    rw [hnn, List.take_left]
  have e1 : 8 * P.length + 8 + 16 + 16 + 8 * n = 8 * (P.length + (5 + n)) := by omega
  simp only [hd1, ← hnn, e1]

/-- The packed bytes of the first i rows of n, and the rows themselves. -/
def pre (f : Nat → List Nat) (n : Nat) : Nat → List Nat
  | 0 => []
  | i + 1 => pre f n i ++ (hd (if i + 1 = n then 1 else 0) (f i).length ++ f i)
def fla (f : Nat → List Nat) : Nat → List Nat
  | 0 => []
  | i + 1 => fla f i ++ f i
theorem pre_len (f : Nat → List Nat) (n : Nat) : ∀ i, (pre f n i).length = 5 * i + (fla f i).length := by
  intro i
  induction i with
  | zero => rfl
  | succ i ih => rw [pre, fla]; simp [ih, hd]; omega
theorem fla_len (f : Nat → List Nat) (m : Nat) : ∀ i, (∀ j, j < i → (f j).length ≤ m) → (fla f i).length ≤ m * i := by
  intro i
  induction i with
  | zero => intro _; simp [fla]
  | succ i ih =>
    intro h
    have h1 := ih fun j hj => h j (by omega)
    have h2 := h i (by omega)
    rw [fla, List.length_append, Nat.mul_succ]; omega
theorem pre_bs (f : Nat → List Nat) (n : Nat) : ∀ i, (∀ j, j < i → Bs (f j) ∧ (f j).length ≤ 3000) → Bs (pre f n i) := by
  intro i
  induction i with
  | zero => intro _ x hx; cases hx
  | succ i ih =>
    intro h x hx
    rw [pre] at hx
    rcases List.mem_append.1 hx with hx | hx
    · exact ih (fun j hj => h j (by omega)) x hx
    · rcases List.mem_append.1 hx with hx | hx
      · exact hd_bs (by split <;> omega) (h i (by omega)).2 x hx
      · exact (h i (by omega)).1 x hx
theorem pre_more (f : Nat → List Nat) (n i : Nat) : ∀ k, ∃ Q, pre f n (i + k) = pre f n i ++ Q := by
  intro k
  induction k with
  | zero => exact ⟨[], by simp⟩
  | succ k ih =>
    obtain ⟨Q, hQ⟩ := ih
    exact ⟨Q ++ (hd (if i + k + 1 = n then 1 else 0) (f (i + k)).length ++ f (i + k)), by rw [← Nat.add_assoc, pre, hQ, List.append_assoc]⟩
theorem run_pre {f : Nat → List Nat} {n lim : Nat} (hf : ∀ j, j < n → Bs (f j) ∧ (f j).length ≤ 3000) (hlim : (fla f n).length ≤ lim) :
    ∀ k i, i + k = n → 0 < k → run (8 * (pre f n n).length) (blk1 (pre f n n) lim) () ⟨8 * (pre f n i).length, fla f i, (fla f i).length, i⟩ = .ok () ⟨8 * (pre f n n).length, fla f n, (fla f n).length, n⟩ := by
  have hb := pre_bs f n n hf
  intro k
  induction k with
  | zero => intro i _ h; omega
  | succ k ih =>
    intro i hi _
    obtain ⟨Q, hQ⟩ := pre_more f n (i + 1) k
    rw [show i + 1 + k = n by omega] at hQ
    have hpl := pre_len f n
    have hfl : (fla f (i + 1)).length ≤ lim := by
      have : ∀ m, (fla f (i + 1)).length ≤ (fla f (i + 1 + m)).length := fun m => by
        induction m with
        | zero => exact Nat.le_refl _
        | succ m ihm =>
          show _ ≤ (fla f (i + 1 + m) ++ f (i + 1 + m)).length
          rw [List.length_append]; omega
      have := this k
      rw [show i + 1 + k = n by omega] at this
      omega
    rw [fla, List.length_append] at hfl
    have hB : pre f n n = pre f n i ++ (hd (if i + 1 = n then 1 else 0) (f i).length ++ f i ++ Q) := by
      rw [hQ, pre]; simp
    have hin : (pre f n i).length ≤ (pre f n n).length := by rw [hB, List.length_append]; omega
    have h1 := blk1_stored (P := pre f n i) (xs := f i) (Q := Q) (last := if i + 1 = n then 1 else 0) (lim := lim) (s := ⟨8 * (pre f n i).length, fla f i, (fla f i).length, i⟩) (pre_bs f n i fun j hj => hf j (by omega)) (hf i (by omega)).1 (by split <;> omega) (hf i (by omega)).2 rfl hfl
    rw [← hB] at h1
    rw [run_eq (blk1_takes hb) () (show 8 * (pre f n i).length ≤ _ by omega), h1, Res.bind_ok]
    have e1 : (⟨8 * ((pre f n i).length + (5 + (f i).length)), fla f i ++ f i, (fla f i).length + (f i).length, i + 1⟩ : Sta) = ⟨8 * (pre f n (i + 1)).length, fla f (i + 1), (fla f (i + 1)).length, i + 1⟩ := by
      have := hpl i
      have := hpl (i + 1)
      rw [fla, List.length_append] at this
      rw [fla, List.length_append]
      congr 1
      omega
    simp only [e1]
    by_cases hl : i + 1 = n
    · rw [hl, if_pos rfl]
      simp
    · rw [if_neg hl]
      simp only [Nat.zero_ne_one, decide_false, Bool.false_eq_true, if_false]
      exact ih (i + 1) (by omega) (by omega)
theorem infl_pre {f : Nat → List Nat} {n lim : Nat} (hf : ∀ j, j < n → Bs (f j) ∧ (f j).length ≤ 3000) (hn : 0 < n) (hlim : (fla f n).length ≤ lim) : infl (pre f n n) lim = .ok () ⟨8 * (pre f n n).length, fla f n, (fla f n).length, n⟩ :=
  run_pre hf hlim n 0 (Nat.zero_add n) hn
end Go.Proofs.YtnnkegpnjedneaaDoor

/-
  A row of rows of bytes that came in; two rows of bytes that grow.
-/
namespace Go.Proofs.YtnnkegpnjedneaaDoor
open Go.ChangeShapes Go.WideShapes Go.ChangeAt Go.RowKit
set_option maxRecDepth 100000

/-- A slice of bytes that lies in a cell. -/
structure Elt (w : World) (p : Addr) (ao : Option Addr) (c : Nat) (xs : List Nat) : Prop where
  cell : w.cell? p = some (.slice ao xs.length c)
  by_ : BySl w (.slice ao xs.length c) xs
  bs : Bs xs
  len : xs.length ≤ maxLen
theorem Elt.below {w w' : World} {p : Addr} {ao : Option Addr} {c : Nat} {xs : List Nat} (h : Elt w p ao c xs) (hb : Below w.heap.size w w') : Elt w' p ao c xs :=
  ⟨(hb.cell (World.block_lt_of_cell? w _ h.cell)).trans h.cell, h.by_.grow hb, h.bs, h.len⟩
/-- The slices of bytes that came in. -/
def LstB (w : World) (a : Option Addr) (len : Nat) (f : Nat → List Nat) (A : Nat → Option Addr) (C : Nat → Nat) : Prop :=
  len = 0 ∨ ∃ b off, a = some ⟨b, off, none⟩ ∧ ∀ i, i < len → Elt w ⟨b, off + i, none⟩ (A i) (C i) (f i)
theorem addr0 (a : Addr) : a.add 0 = a := by simp [Addr.add]
theorem cells22 : Tryd.prog.cellsOf 22 = 1 := by kernel_rfl
theorem elt_open {H : Type} {enc : TypeId × Value → H} {w : World} {base : Nat} {spare : Nat → Bool} {held : Bool} {fuel : Nat} {sv : Value} {y : DataW H × List MemPlace}
    (h : DataW.trod enc Tryd.prog w base spare held fuel 22 [sv] = some y) : ∃ ao c xs, sv = .slice ao xs.length c ∧ BySl w (.slice ao xs.length c) xs ∧ Bs xs ∧ xs.length ≤ maxLen := by
  rcases open_ints Tryd.underlying22 Tryd.underlying5 (by kernel_rfl) h with ⟨hcs, _⟩ | ⟨ad, l, c, zs, hcs, _, hl, hm, hz, _, hcell, hwf⟩
  · simp only [List.cons.injEq, and_true] at hcs
    exact ⟨none, 0, [], hcs, .inl ⟨rfl, rfl⟩, (fun x h => by cases h), Nat.zero_le _⟩
  · simp only [List.cons.injEq, and_true] at hcs
    subst hcs
    obtain ⟨xs, rfl, hb, hs, h1, h2⟩ := by_open h
    exact ⟨some ad, c, xs, rfl, hs, hb, Nat.le_trans h1 h2⟩
theorem lst_open {H : Type} {enc : TypeId × Value → H} {w : World} {base : Nat} {spare : Nat → Bool} {held : Bool} {fuel : Nat} {a : Option Addr} {len cap : Nat} {y : DataW H × List MemPlace}
    (h : DataW.trod enc Tryd.prog w base spare held fuel 40 [.slice a len cap] = some y) : ∃ f A C, LstB w a len f A C ∧ len ≤ maxLen := by
  rcases Go.Deep.open_slice Tryd.underlying40 h with ⟨h0, _⟩ | ⟨ad, l, c, m, n, D, Pl, hcs, _, hl, hm, hmm, _, hi⟩
  · simp at h0
    exact ⟨fun _ => [], fun _ => none, fun _ => 0, .inl h0.2.1, by omega⟩
  · simp at hcs
    obtain ⟨rfl, rfl, rfl⟩ := hcs
    have hlm : len ≤ m := by rw [hmm]; split <;> omega
    have hE : ∀ i, i < len → ∃ sv, w.cell? (ad.add i) = some sv ∧ ∃ ao c xs, sv = .slice ao xs.length c ∧ BySl w (.slice ao xs.length c) xs ∧ Bs xs ∧ xs.length ≤ maxLen := by
      intro i hil
      obtain ⟨cs', hc, ht⟩ := hi i (by omega)
      rw [cells22, Nat.mul_one] at hc
      obtain ⟨_, hlen, hat⟩ := World.cells?_some hc
      match cs', hlen with
      | [sv], _ =>
        have h0 := hat 0 (by omega)
        rw [addr0] at h0
        exact ⟨sv, h0, elt_open ht⟩
    by_cases h0 : len = 0
    · exact ⟨fun _ => [], fun _ => none, fun _ => 0, .inl h0, by omega⟩
    · obtain ⟨sv, hc0, _⟩ := hE 0 (by omega)
      obtain ⟨b, off, spot⟩ := ad
      have hspot : spot = none := by simpa [Addr.add] using World.cell?_spot hc0
      subst hspot
      have hX : ∀ i, ∃ t : List Nat × Option Addr × Nat, i < len → Elt w ⟨b, off + i, none⟩ t.2.1 t.2.2 t.1 := by
        intro i
        by_cases hil : i < len
        · obtain ⟨sv, hc, ao, c, xs, rfl, h1, h2, h3⟩ := hE i hil
          rw [Addr.add_lit] at hc
          exact ⟨(xs, ao, c), fun _ => ⟨hc, h1, h2, h3⟩⟩
        · exact ⟨([], none, 0), fun h => absurd h hil⟩
      exact ⟨fun i => (Classical.choose (hX i)).1, fun i => (Classical.choose (hX i)).2.1, fun i => (Classical.choose (hX i)).2.2, .inr ⟨b, off, rfl, fun i hil => Classical.choose_spec (hX i) hil⟩, by omega⟩

/-- Two rows of bytes of the call's own. -/
structure Twb (B : Nat) (w wr : World) (v1 : Value) (xs1 : List Nat) (v2 : Value) (xs2 : List Nat) : Prop where
  own1 : wr.ownsRow B 5 1 v1 xs1.length (u8s xs1)
  own2 : wr.ownsRow B 5 1 v2 xs2.length (u8s xs2)
  ne : ∀ k, v1.ownBlock = some k → v2.ownBlock ≠ some k
  below : Below B w wr
  size : B ≤ wr.heap.size
theorem Twb.app1 {B : Nat} {w wr w' : World} {v1 v2 v' : Value} {xs1 xs2 ys : List Nat} (h : Twb B w wr v1 xs1 v2 xs2) (k : Apd wr B v1 ys v' w') : Twb B w w' v' ys v2 xs2 := by
  refine ⟨k.own, ownsRow_touch h.own2 k.touch fun i hi hs => h.ne i hs hi, fun i hi h2 => ?_, h.below.trans (k.touch.below h.size fun i hi => (h.own1.lt i hi).1), Nat.le_trans h.size k.touch.size⟩
  rcases k.row i hi with h1 | h1
  · exact h.ne i h1 h2
  · have := (h.own2.lt i h2).2
    omega
theorem Twb.app2 {B : Nat} {w wr w' : World} {v1 v2 v' : Value} {xs1 xs2 ys : List Nat} (h : Twb B w wr v1 xs1 v2 xs2) (k : Apd wr B v2 ys v' w') : Twb B w w' v1 xs1 v' ys := by
  refine ⟨ownsRow_touch h.own1 k.touch fun i hi hs => h.ne i hi hs, k.own, fun i hi h2 => ?_, h.below.trans (k.touch.below h.size fun i hi => (h.own2.lt i hi).1), Nat.le_trans h.size k.touch.size⟩
  rcases k.row i h2 with h1 | h1
  · exact h.ne i hi h1
  · have := (h.own1.lt i hi).2
    omega
theorem Twb.grow {B : Nat} {w wr w' : World} {v1 v2 : Value} {xs1 xs2 : List Nat} (h : Twb B w wr v1 xs1 v2 xs2) (hb : Below wr.heap.size wr w') : Twb B w w' v1 xs1 v2 xs2 :=
  ⟨ownsRow_touch h.own1 (Touch.of_below hb : Touch (fun _ => False) wr w') fun _ _ h => h, ownsRow_touch h.own2 (Touch.of_below hb : Touch (fun _ => False) wr w') fun _ _ h => h, h.ne, h.below.trans (hb.mono h.size), Nat.le_trans h.size hb.size⟩
theorem Twb.start (w : World) : Twb w.heap.size w ((w.alloc (.cells #[] 5)).alloc (.cells #[] 5)) (.slice (some ⟨w.heap.size, 0, none⟩) 0 0) [] (.slice (some ⟨w.heap.size + 1, 0, none⟩) 0 0) [] := by
  have hs : (w.alloc (.cells #[] 5)).heap.size = w.heap.size + 1 := Array.size_push _
  have h1 := own_lit0 w
  have h2 := own_lit0 (w.alloc (.cells #[] 5))
  rw [hs] at h2
  refine ⟨h1.alloc _, own_base h2 (Nat.le_succ _), fun k hk e => ?_, ((Below.refl _ w).alloc (Nat.le_refl _) _).alloc (by rw [hs]; omega) _, ?_⟩
  · simp only [Value.ownBlock, Option.some.injEq] at hk e
    omega
  · have := Array.size_push (xs := (w.alloc (.cells #[] 5)).heap) (Obj.cells #[] 5)
    show w.heap.size ≤ ((w.alloc (.cells #[] 5)).heap.push (Obj.cells #[] 5)).size
    rw [this, hs]; omega
end Go.Proofs.YtnnkegpnjedneaaDoor

