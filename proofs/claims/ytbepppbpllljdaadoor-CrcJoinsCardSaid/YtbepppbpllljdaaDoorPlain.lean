/-
  Plain lemmas on the sum of archives: the linear hv1 on numbers of 32 bits. No program is named here.
-/
import Derived.Laws.BitsAllLaws
namespace CrcPlain

def poly : BitVec 32 := 0xEDB88320#32

/-- One halving. -/
def hv1 (x : BitVec 32) : BitVec 32 := (x >>> 1) ^^^ (if x.getLsbD 0 then poly else 0#32)

theorem hv1_xor (x y : BitVec 32) : hv1 (x ^^^ y) = hv1 x ^^^ hv1 y := by
  unfold hv1
  rw [BitVec.ushiftRight_xor_distrib, BitVec.getLsbD_xor]
  cases hx : x.getLsbD 0 <;> cases hy : y.getLsbD 0 <;> simp
  · ac_rfl
  · ac_rfl
  · rw [show x >>> 1 ^^^ poly ^^^ (y >>> 1 ^^^ poly) = x >>> 1 ^^^ y >>> 1 ^^^ (poly ^^^ poly) from by ac_rfl, BitVec.xor_self]; simp

theorem hv1_zero : hv1 0#32 = 0#32 := by decide

theorem hv1_top (x : BitVec 32) : (hv1 x).getLsbD 31 = x.getLsbD 0 := by
  unfold hv1
  rw [BitVec.getLsbD_xor, BitVec.getLsbD_ushiftRight]
  cases hx : x.getLsbD 0 <;> simp [poly]

/-- Only nought comes to nought. -/
theorem hv1_ker (x : BitVec 32) (h : hv1 x = 0#32) : x = 0#32 := by
  have h0 : x.getLsbD 0 = false := by rw [← hv1_top, h]; simp
  have h1 : x >>> 1 = 0#32 := by
    have h' := h
    unfold hv1 at h'
    rw [h0] at h'
    simpa using h'
  apply BitVec.eq_of_getLsbD_eq
  intro i hi
  cases i with
  | zero => simpa using h0
  | succ i =>
    have := congrArg (fun y => BitVec.getLsbD y i) h1
    simp only [BitVec.getLsbD_ushiftRight] at this
    rw [Nat.add_comm] at this
    simpa using this

def hvs : Nat → BitVec 32 → BitVec 32
  | 0, x => x
  | n + 1, x => hvs n (hv1 x)

theorem hvs_xor (n : Nat) (x y : BitVec 32) : hvs n (x ^^^ y) = hvs n x ^^^ hvs n y := by
  induction n generalizing x y with
  | zero => rfl
  | succ n ih => rw [hvs, hvs, hvs, hv1_xor, ih]
theorem hvs_zero (n : Nat) : hvs n 0#32 = 0#32 := by
  induction n with
  | zero => rfl
  | succ n ih => rw [hvs, hv1_zero, ih]
theorem hvs_add (n m : Nat) (x : BitVec 32) : hvs (n + m) x = hvs m (hvs n x) := by
  induction n generalizing x with
  | zero => simp [hvs]
  | succ n ih => rw [show n + 1 + m = (n + m) + 1 from by omega, hvs, hvs, ih]
theorem hvs_ker (n : Nat) (x : BitVec 32) (h : hvs n x = 0#32) : x = 0#32 := by
  induction n generalizing x with
  | zero => exact h
  | succ n ih => exact hv1_ker x (ih _ h)

/-- The inner number behind bytes. -/
def feed (x : BitVec 32) : List (BitVec 8) → BitVec 32
  | [] => x
  | b :: r => feed (hvs 8 (x ^^^ b.setWidth 32)) r

theorem feed_append (x : BitVec 32) (a b : List (BitVec 8)) : feed x (a ++ b) = feed (feed x a) b := by
  induction a generalizing x with
  | nil => rfl
  | cons c r ih => rw [List.cons_append, feed, feed, ih]

/-- A start's share goes on by itself. -/
theorem feed_start (x y : BitVec 32) (l : List (BitVec 8)) : feed (x ^^^ y) l = hvs (8 * l.length) x ^^^ feed y l := by
  induction l generalizing x y with
  | nil => simp [feed, hvs]
  | cons c r ih =>
    rw [feed, feed, BitVec.xor_assoc, hvs_xor, ih, List.length_cons, show 8 * (r.length + 1) = 8 + 8 * r.length from by omega, hvs_add]

theorem feed_zeros (x : BitVec 32) (n : Nat) : feed x (List.replicate n 0#8) = hvs (8 * n) x := by
  induction n generalizing x with
  | zero => rfl
  | succ n ih => rw [List.replicate_succ, feed, ih, show 8 * (n + 1) = 8 + 8 * n from by omega, hvs_add]; simp

/-- The sum with bytes behind. -/
def upd (s : BitVec 32) (l : List (BitVec 8)) : BitVec 32 := ~~~ (feed (~~~ s) l)

theorem upd_append (s : BitVec 32) (a b : List (BitVec 8)) : upd s (a ++ b) = upd (upd s a) b := by
  unfold upd
  rw [feed_append, BitVec.not_not]

/-- Sums of pieces, joined. -/
theorem upd_join (s : BitVec 32) (l : List (BitVec 8)) : upd s l = hvs (8 * l.length) s ^^^ upd 0#32 l := by
  unfold upd
  have e : ∀ z : BitVec 32, ~~~ z = z ^^^ BitVec.allOnes 32 := fun z => by rw [BitVec.xor_allOnes]
  rw [e s, feed_start, e (hvs _ _ ^^^ _), e (feed _ l), e 0#32, BitVec.xor_assoc]
  simp

end CrcPlain
namespace CrcPlain

/-- A bit in, a halving. -/
def bit (b : Bool) : BitVec 32 := if b then 1#32 else 0#32
def runb (x : BitVec 32) : List Bool → BitVec 32
  | [] => x
  | b :: r => runb (hv1 (x ^^^ bit b)) r

theorem runb_append (x : BitVec 32) (a b : List Bool) : runb x (a ++ b) = runb (runb x a) b := by
  induction a generalizing x with
  | nil => rfl
  | cons c r ih => rw [List.cons_append, runb, runb, ih]

/-- The lowest k bits, the lowest one first. -/
def low (k : Nat) (v : BitVec 32) : List Bool := (List.range k).map v.getLsbD

theorem low_succ (k : Nat) (v : BitVec 32) : low (k + 1) v = v.getLsbD 0 :: low k (v >>> 1) := by
  unfold low
  rw [List.range_succ_eq_map, List.map_cons, List.map_map]
  congr 1
  apply List.map_congr_left
  intro i _
  simp [Nat.add_comm]

theorem split_low (v : BitVec 32) : v = bit (v.getLsbD 0) ^^^ (v >>> 1) <<< 1 := by
  apply BitVec.eq_of_getLsbD_eq
  intro i hi
  rw [BitVec.getLsbD_xor, BitVec.getLsbD_shiftLeft, BitVec.getLsbD_ushiftRight]
  cases i with
  | zero => cases h : v.getLsbD 0 <;> simp [bit]
  | succ i =>
    have h1 : (bit (v.getLsbD 0)).getLsbD (i + 1) = false := by
      unfold bit
      cases v.getLsbD 0 <;> simp
    rw [h1]
    simp [hi, Nat.add_comm]

theorem hv1_shl (v : BitVec 32) : hv1 ((v >>> 1) <<< 1) = v >>> 1 := by
  unfold hv1
  have h0 : ((v >>> 1) <<< 1).getLsbD 0 = false := by simp
  rw [h0]
  apply BitVec.eq_of_getLsbD_eq
  intro i hi
  simp only [BitVec.getLsbD_xor, BitVec.getLsbD_ushiftRight, BitVec.getLsbD_shiftLeft]
  by_cases h : 1 + i < 32
  · simp [h]
  · have : i = 31 := by omega
    subst this
    simp

/-- Bits one by one are bits at once. -/
theorem runb_low (k : Nat) (x v : BitVec 32) (hv : ∀ i, k ≤ i → v.getLsbD i = false) : runb x (low k v) = hvs k (x ^^^ v) := by
  induction k generalizing x v with
  | zero =>
    have : v = 0#32 := by
      apply BitVec.eq_of_getLsbD_eq
      intro i _
      simpa using hv i (Nat.zero_le _)
    subst this
    simp [low, runb, hvs]
  | succ k ih =>
    rw [low_succ, runb, hvs, ih]
    · congr 1
      conv => rhs; rw [split_low v]
      rw [← BitVec.xor_assoc, hv1_xor (x ^^^ bit (v.getLsbD 0)), hv1_shl]
    · intro i hi
      rw [BitVec.getLsbD_ushiftRight, Nat.add_comm]
      exact hv (i + 1) (by omega)

theorem runb_false (n : Nat) (x : BitVec 32) : runb x (List.replicate n false) = hvs n x := by
  induction n generalizing x with
  | zero => rfl
  | succ n ih => rw [List.replicate_succ, runb, ih, hvs]; simp [bit]

/-- A byte's bits. -/
def byteBits (b : BitVec 8) : List Bool := (List.range 8).map b.getLsbD

theorem feed_bits (x : BitVec 32) (l : List (BitVec 8)) : feed x l = runb x (l.flatMap byteBits) := by
  induction l generalizing x with
  | nil => rfl
  | cons b r ih =>
    rw [feed, ih, List.flatMap_cons, runb_append]
    congr 1
    have h := runb_low 8 x (b.setWidth 32) (fun i hi => by
      rw [BitVec.getLsbD_setWidth]
      have : b.getLsbD i = false := BitVec.getLsbD_of_ge b i hi
      simp [this])
    rw [← h]
    congr 1

theorem runb_xor (x y : BitVec 32) (a b : List Bool) (h : a.length = b.length) : runb (x ^^^ y) (List.zipWith (· ^^ ·) a b) = runb x a ^^^ runb y b := by
  induction a generalizing x y b with
  | nil => cases b with
    | nil => rfl
    | cons => simp at h
  | cons c r ih => cases b with
    | nil => simp at h
    | cons d s =>
      rw [List.zipWith_cons_cons, runb, runb, runb, ← ih _ _ _ (by simpa using h), ← hv1_xor]
      congr 2
      have : bit (c ^^ d) = bit c ^^^ bit d := by cases c <;> cases d <;> simp [bit]
      rw [this]
      ac_rfl

/-- A burst of at most 32 bits among noughts doesn't come to nought. -/
theorem burst_ne (n m : Nat) (v : BitVec 32) (hv : v ≠ 0#32) : runb 0#32 (List.replicate n false ++ (low 32 v ++ List.replicate m false)) ≠ 0#32 := by
  rw [runb_append, runb_append, runb_false, runb_false, hvs_zero, runb_low 32 _ v (fun i hi => BitVec.getLsbD_of_ge v i hi)]
  intro h
  have h1 := hvs_ker m _ h
  have h2 := hvs_ker 32 _ h1
  simp at h2
  exact hv h2

end CrcPlain
namespace CrcPlain

/-- A linear map's columns, applied: the first k bits' share. -/
def cols (m : Nat → BitVec 32) (x : BitVec 32) : Nat → BitVec 32
  | 0 => 0#32
  | k + 1 => cols m x k ^^^ (if x.getLsbD k then m k else 0#32)

structure Lin (f : BitVec 32 → BitVec 32) : Prop where
  xor : ∀ x y, f (x ^^^ y) = f x ^^^ f y

theorem Lin.zero {f : BitVec 32 → BitVec 32} (h : Lin f) : f 0#32 = 0#32 := by
  have := h.xor 0#32 0#32
  rw [BitVec.xor_self, BitVec.xor_self] at this
  exact this

/-- The lowest k bits of x. -/
def lowk (x : BitVec 32) : Nat → BitVec 32
  | 0 => 0#32
  | k + 1 => lowk x k ^^^ (if x.getLsbD k then 1#32 <<< k else 0#32)

theorem lowk_bit (x : BitVec 32) (k i : Nat) (hk : k ≤ 32) : (lowk x k).getLsbD i = (decide (i < k) && x.getLsbD i) := by
  induction k with
  | zero => simp [lowk]
  | succ k ih =>
    rw [lowk, BitVec.getLsbD_xor, ih (by omega)]
    by_cases hx : x.getLsbD k = true
    · rw [if_pos hx, BitVec.getLsbD_shiftLeft, BitVec.getLsbD_one]
      by_cases h1 : i < k
      · simp [h1, show i < k + 1 by omega]
      · by_cases h2 : i = k
        · subst h2
          simp [hx]; omega
        · simp [h1, show ¬ i < k + 1 by omega]
          omega
    · rw [if_neg hx]
      by_cases h1 : i < k
      · simp [h1, show i < k + 1 by omega]
      · by_cases h2 : i = k
        · subst h2
          simp at hx
          simp [hx]
        · simp [h1, show ¬ i < k + 1 by omega]

theorem lowk_all (x : BitVec 32) : lowk x 32 = x := by
  apply BitVec.eq_of_getLsbD_eq
  intro i hi
  rw [lowk_bit x 32 i (by omega)]
  simp [hi]

theorem cols_lin {f : BitVec 32 → BitVec 32} (h : Lin f) (x : BitVec 32) (k : Nat) : cols (fun i => f (1#32 <<< i)) x k = f (lowk x k) := by
  induction k with
  | zero => simp [cols, lowk, h.zero]
  | succ k ih =>
    rw [cols, lowk, ih, h.xor]
    congr 1
    split
    · rfl
    · exact h.zero.symm

/-- A linear map is told by its columns. -/
theorem cols_all {f : BitVec 32 → BitVec 32} (h : Lin f) (x : BitVec 32) : cols (fun i => f (1#32 <<< i)) x 32 = f x := by
  rw [cols_lin h, lowk_all]

theorem Lin.comp {f g : BitVec 32 → BitVec 32} (hf : Lin f) (hg : Lin g) : Lin (fun x => f (g x)) :=
  ⟨fun x y => by rw [hg.xor, hf.xor]⟩

theorem hvs_lin (n : Nat) : Lin (hvs n) := ⟨hvs_xor n⟩

/-- The square of a map of n hvs is that of 2n; its columns are the map applied to its own columns. -/
theorem hvs_square (n : Nat) (x : BitVec 32) : hvs n (hvs n x) = hvs (n + n) x := (hvs_add n n x).symm

/-- Steps by the bits of their number. -/
theorem hvs_bits (n : Nat) (x : BitVec 32) : hvs n x = hvs (n / 2) (hvs (n / 2) (hvs (n % 2) x)) := by
  rw [← hvs_add, ← hvs_add]
  congr 1
  omega

end CrcPlain
namespace CrcPlain

/-- Clearing the lowest bit. -/
theorem clear_low (k m : Nat) (i : Nat) : ((2 ^ k * (2 * m + 1)) &&& (2 ^ k * (2 * m + 1) - 1)).testBit i = ((2 ^ k * (2 * m + 1)).testBit i && decide (i ≠ k)) := by
  have e : 2 ^ k * (2 * m + 1) - 1 = 2 ^ (k + 1) * m + (2 ^ k - 1) := by
    have := Nat.two_pow_pos k
    rw [Nat.pow_succ, Nat.mul_add, ← Nat.mul_assoc]
    omega
  rw [Nat.testBit_and]
  by_cases h1 : i < k
  · have : (2 ^ k * (2 * m + 1)).testBit i = false := by
      rw [Nat.mul_comm, Nat.testBit_mul_two_pow]; simp; omega
    simp [this]
  · by_cases h2 : i = k
    · subst h2
      rw [e, Nat.testBit_two_pow_mul_add _ (by have := Nat.two_pow_pos i; rw [Nat.pow_succ]; omega)]
      simp
    · have hk : ¬ i < k + 1 := by omega
      rw [e, Nat.testBit_two_pow_mul_add _ (by have := Nat.two_pow_pos k; rw [Nat.pow_succ]; omega)]
      simp only [hk, if_false]
      rw [Nat.mul_comm (2 ^ k), Nat.testBit_mul_two_pow]
      obtain ⟨j, rfl⟩ : ∃ j, i = k + (j + 1) := ⟨i - k - 1, by omega⟩
      rw [show k + (j + 1) - k = j + 1 from by omega, show k + (j + 1) - (k + 1) = j from by omega, Nat.testBit_succ, show (2 * m + 1) / 2 = m from by omega]
      simp

theorem cols_skip (m : Nat → BitVec 32) (x y : BitVec 32) (k : Nat) (hb : x.getLsbD k = true) (hy : ∀ i, y.getLsbD i = (x.getLsbD i && decide (i ≠ k))) (n : Nat) :
    cols m x n = cols m y n ^^^ (if k < n then m k else 0#32) := by
  induction n with
  | zero => simp [cols]
  | succ n ih =>
    rw [cols, cols, ih, hy n]
    by_cases h : n = k
    · subst h
      simp [hb]
    · by_cases h1 : k < n
      · simp [h, h1, show k < n + 1 by omega]
        ac_rfl
      · simp [h, h1, show ¬ k < n + 1 by omega]

theorem cols_zero (m : Nat → BitVec 32) (n : Nat) : cols m 0#32 n = 0#32 := by
  induction n with
  | zero => rfl
  | succ n ih => rw [cols, ih]; simp

/-- A round of 'of': the lowest bit's column in, the bit out. -/
theorem cols_round (m : Nat → BitVec 32) (x k q : Nat) (hx : x < 4294967296) (hk : k < 32) (hq : x = 2 ^ k * (2 * q + 1)) :
    cols m (BitVec.ofNat 32 x) 32 = m k ^^^ cols m (BitVec.ofNat 32 (x &&& (x - 1))) 32 := by
  have hy : x &&& (x - 1) < 4294967296 := Nat.lt_of_le_of_lt Nat.and_le_left hx
  have h := cols_skip m (BitVec.ofNat 32 x) (BitVec.ofNat 32 (x &&& (x - 1))) k ?_ ?_ 32
  · rw [if_pos hk] at h
    rw [h, BitVec.xor_comm]
  · rw [BitVec.getLsbD_ofNat, hq, Nat.mul_comm, Nat.testBit_mul_two_pow]
    simp [hk]
  · intro i
    rw [BitVec.getLsbD_ofNat, BitVec.getLsbD_ofNat]
    have := clear_low k q i
    rw [← hq] at this
    rw [this]
    cases decide (i < 32) <;> simp

end CrcPlain
namespace CrcPlain

theorem top_down (y : BitVec 32) (k : Nat) (hk : k < 8) : ((y >>> 8) <<< (k + 1)) >>> 1 = (y >>> 8) <<< k := by
  apply BitVec.eq_of_getLsbD_eq
  intro i hi
  simp only [BitVec.getLsbD_ushiftRight, BitVec.getLsbD_shiftLeft]
  by_cases h1 : 1 + i < 32
  · have e : 1 + i - (k + 1) = i - k := by omega
    rw [e]
    by_cases h2 : i < k
    · simp [h2, show 1 + i < k + 1 by omega]
    · simp [h1, h2, hi, show ¬ 1 + i < k + 1 by omega]
  · have : i = 31 := by omega
    subst this
    have : y.getLsbD (8 + (31 - k)) = false := BitVec.getLsbD_of_ge y _ (by omega)
    simp [this]

theorem top_even (y : BitVec 32) (k : Nat) : ((((y >>> 8) <<< (k + 1)) >>> 1) <<< 1) = (y >>> 8) <<< (k + 1) := by
  apply BitVec.eq_of_getLsbD_eq
  intro i hi
  simp only [BitVec.getLsbD_ushiftRight, BitVec.getLsbD_shiftLeft]
  cases i with
  | zero => simp
  | succ i =>
    rw [show 1 + (i + 1 - 1) = i + 1 from by omega]
    by_cases h2 : i + 1 < k + 1
    · simp [h2]
    · simp [h2, hi]

theorem top_steps (y : BitVec 32) (k : Nat) (hk : k ≤ 8) : hvs k ((y >>> 8) <<< k) = y >>> 8 := by
  induction k with
  | zero => simp [hvs]
  | succ k ih =>
    rw [hvs, ← top_even, hv1_shl, top_down y k (by omega)]
    exact ih (by omega)

theorem byte_split (y : BitVec 32) : y = ((y >>> 8) <<< 8) ^^^ (y &&& 255#32) := by
  apply BitVec.eq_of_getLsbD_eq
  intro i hi
  simp only [BitVec.getLsbD_xor, BitVec.getLsbD_ushiftRight, BitVec.getLsbD_shiftLeft, BitVec.getLsbD_and]
  have h255 : (255#32).getLsbD i = decide (i < 8) := by
    rw [BitVec.getLsbD_ofNat, show 255 = 2 ^ 8 - 1 from rfl, Nat.testBit_two_pow_sub_one]
    simp; omega
  rw [h255]
  by_cases h : i < 8
  · simp [h]
  · simp [h, hi, show 8 + (i - 8) = i by omega]

/-- Eight steps: what lies higher goes down; what the lowest byte makes comes in. -/
theorem hvs_eight (y : BitVec 32) : hvs 8 y = (y >>> 8) ^^^ hvs 8 (y &&& 255#32) := by
  conv => lhs; rw [byte_split y]
  rw [hvs_xor, top_steps y 8 (Nat.le_refl _)]

theorem hvs_byte (x : BitVec 32) (c : Nat) (hc : c < 256) : hvs 8 (x ^^^ BitVec.ofNat 32 c) = (x >>> 8) ^^^ hvs 8 (BitVec.ofNat 32 (x.toNat % 256 ^^^ c)) := by
  rw [hvs_eight]
  have hx : x.toNat % 256 < 2 ^ 8 := Nat.mod_lt _ (by omega)
  have hb : x.toNat % 256 ^^^ c < 2 ^ 8 := Nat.xor_lt_two_pow hx (by omega)
  congr 1
  · rw [BitVec.ushiftRight_xor_distrib]
    have : BitVec.ofNat 32 c >>> 8 = 0#32 := by
      apply BitVec.eq_of_toNat_eq
      rw [BitVec.toNat_ushiftRight, BitVec.toNat_ofNat, Nat.mod_eq_of_lt (show c < 2 ^ 32 by omega), Nat.shiftRight_eq_div_pow]
      simp; omega
    rw [this, BitVec.xor_zero]
  · congr 1
    apply BitVec.eq_of_toNat_eq
    rw [BitVec.toNat_and, BitVec.toNat_xor, BitVec.toNat_ofNat, BitVec.toNat_ofNat, BitVec.toNat_ofNat, Nat.mod_eq_of_lt (show c < 2 ^ 32 by omega), Nat.mod_eq_of_lt (show 255 < 2 ^ 32 by omega), Nat.mod_eq_of_lt (show x.toNat % 256 ^^^ c < 2 ^ 32 by omega), Nat.and_two_pow_sub_one_eq_mod _ 8, show 256 = 2 ^ 8 from rfl, Nat.xor_mod_two_pow, Nat.mod_eq_of_lt (show c < 2 ^ 8 by omega)]

/-- Bytes, as numbers. -/
def bv (xs : List Nat) : List (BitVec 8) := xs.map (BitVec.ofNat 8)

theorem feed_snoc (x : BitVec 32) (xs : List Nat) (c : Nat) (hc : c < 256) : feed x (bv (xs ++ [c])) = hvs 8 (feed x (bv xs) ^^^ BitVec.ofNat 32 c) := by
  unfold bv
  rw [List.map_append, feed_append]
  have : (BitVec.ofNat 8 c).setWidth 32 = BitVec.ofNat 32 c := by
    apply BitVec.eq_of_toNat_eq
    rw [BitVec.toNat_setWidth, BitVec.toNat_ofNat, BitVec.toNat_ofNat]
    omega
  simp only [List.map_cons, List.map_nil, feed, this]

theorem take_next (xs : List Nat) (k : Nat) (h : k < xs.length) : xs.take (k + 1) = xs.take k ++ [xs.getD k 0] := by
  rw [List.take_succ_eq_append_getElem h]
  simp [List.getD, h]

/-- The sum with bytes behind. -/
def updN (s : BitVec 32) (xs : List Nat) : BitVec 32 := ~~~ (feed (~~~ s) (bv xs))
theorem updN_upd (s : BitVec 32) (xs : List Nat) : updN s xs = upd s (bv xs) := rfl
theorem updN_append (s : BitVec 32) (a b : List Nat) : updN s (a ++ b) = updN (updN s a) b := by
  rw [updN_upd, updN_upd, updN_upd, show bv (a ++ b) = bv a ++ bv b from List.map_append, upd_append]
end CrcPlain
