
/-
  Plain lemmas on numbers and lists of bytes: what a row of bytes tells as one number, its bits, and how bytes are put behind it. No program is named here.
-/
import Derived.Laws.BitsAllLaws
namespace Go.Proofs.YtjjjchdocnoabaaDoor

/-- The number that bytes tell, the lowest byte first. -/
def num : List Nat → Nat
  | [] => 0
  | b :: r => b + 256 * num r

def Bs (l : List Nat) : Prop := ∀ x ∈ l, x < 256

theorem Bs.nil : Bs [] := fun x h => by cases h
theorem Bs.app {a b : List Nat} (ha : Bs a) (hb : Bs b) : Bs (a ++ b) := fun x h => by
  rcases List.mem_append.1 h with h | h
  · exact ha x h
  · exact hb x h
theorem Bs.one {x : Nat} (h : x < 256) : Bs [x] := fun y hy => by
  rcases List.mem_singleton.1 hy with rfl; exact h
theorem Bs.take {a : List Nat} (ha : Bs a) (k : Nat) : Bs (a.take k) := fun x h => ha x (List.mem_of_mem_take h)
theorem Bs.drop {a : List Nat} (ha : Bs a) (k : Nat) : Bs (a.drop k) := fun x h => ha x (List.mem_of_mem_drop h)
theorem Bs.set {a : List Nat} (ha : Bs a) (k : Nat) {x : Nat} (hx : x < 256) : Bs (a.set k x) := fun y h => by
  rcases List.mem_or_eq_of_mem_set h with h | rfl
  · exact ha y h
  · exact hx
theorem Bs.at {a : List Nat} (ha : Bs a) (k : Nat) : a.getD k 0 < 256 := by
  rw [List.getD_eq_getElem?_getD]
  cases h : a[k]? with
  | none => simp
  | some x => simpa using ha x (List.mem_of_getElem? h)

theorem num_app (a b : List Nat) : num (a ++ b) = num a + 256 ^ a.length * num b := by
  induction a with
  | nil => simp [num]
  | cons x r ih =>
    simp only [List.cons_append, num, ih, List.length_cons, Nat.pow_succ, Nat.mul_add]
    rw [show 256 ^ r.length * 256 * num b = 256 * (256 ^ r.length * num b) from by rw [Nat.mul_comm (256 ^ r.length) 256, Nat.mul_assoc]]
    omega

theorem num_one (x : Nat) : num [x] = x := by simp [num]

theorem num_lt {a : List Nat} (ha : Bs a) : num a < 256 ^ a.length := by
  induction a with
  | nil => simp [num]
  | cons x r ih =>
    have h1 := ha x (by simp)
    have h2 := ih fun y hy => ha y (by simp [hy])
    simp only [num, List.length_cons, Nat.pow_succ]
    omega

theorem num_drop {a : List Nat} (ha : Bs a) (k : Nat) : num (a.drop k) = num a / 256 ^ k := by
  induction k generalizing a with
  | zero => simp
  | succ k ih =>
    cases a with
    | nil => simp [num]
    | cons x r =>
      have h1 := ha x (by simp)
      have h2 : Bs r := fun y hy => ha y (by simp [hy])
      rw [List.drop_succ_cons, ih h2, num, Nat.pow_succ, Nat.mul_comm (256 ^ k) 256, ← Nat.div_div_eq_div_mul]
      congr 1
      omega

theorem num_take {a : List Nat} (ha : Bs a) (k : Nat) : num (a.take k) = num a % 256 ^ k := by
  induction k generalizing a with
  | zero => simp [num, Nat.mod_one]
  | succ k ih =>
    cases a with
    | nil => simp [num]
    | cons x r =>
      have h1 := ha x (by simp)
      have h2 : Bs r := fun y hy => ha y (by simp [hy])
      rw [List.take_succ_cons, num, ih h2, num, Nat.pow_succ, Nat.mul_comm (256 ^ k) 256, Nat.mod_mul]
      have e1 : (x + 256 * num r) % 256 = x := by omega
      have e2 : (x + 256 * num r) / 256 = num r := by omega
      rw [e1, e2]

theorem num_byte {a : List Nat} (ha : Bs a) (k : Nat) : a.getD k 0 = num a / 256 ^ k % 256 := by
  rw [← num_drop ha]
  have h := num_take (ha.drop k) 1
  rw [Nat.pow_one] at h
  rw [← h]
  cases hd : a.drop k with
  | nil =>
    have : a.length ≤ k := by simpa using hd
    simp [num, List.getD, List.getElem?_eq_none this]
  | cons x r =>
    have : a[k]? = some x := by
      have := congrArg (·[0]?) hd
      simpa using this
    simp [num, List.getD, this]

theorem num_inj {a b : List Nat} (ha : Bs a) (hb : Bs b) (hl : a.length = b.length) (h : num a = num b) : a = b := by
  apply List.ext_getElem hl
  intro i h1 h2
  have e1 := num_byte ha i
  have e2 := num_byte hb i
  rw [h, ← e2] at e1
  simpa [List.getD, h1, h2] using e1

theorem pow256 (k : Nat) : 256 ^ k = 2 ^ (8 * k) := by rw [show (256 : Nat) = 2 ^ 8 from rfl, ← Nat.pow_mul]

theorem num_set {a : List Nat} {k : Nat} (hk : k < a.length) (x : Nat) : num (a.set k x) + 256 ^ k * a.getD k 0 = num a + 256 ^ k * x := by
  induction a generalizing k with
  | nil => simp at hk
  | cons y r ih =>
    cases k with
    | zero => simp [num]; omega
    | succ k =>
      have h := ih (k := k) (by simpa using hk)
      simp only [List.set_cons_succ, num, List.getD_cons_succ, Nat.pow_succ]
      rw [Nat.mul_comm (256 ^ k) 256, Nat.mul_assoc, Nat.mul_assoc]
      omega

/-- What a look at n bits takes: five bytes are enough. -/
theorem peek_eq (X s n : Nat) (h : s + n ≤ 40) : X % 2 ^ 40 / 2 ^ s % 2 ^ n = X / 2 ^ s % 2 ^ n := by
  apply Nat.eq_of_testBit_eq
  intro i
  simp only [Nat.testBit_mod_two_pow, Nat.testBit_div_two_pow]
  by_cases hi : i < n
  · have : i + s < 40 := by omega
    simp [hi, this]
  · simp [hi]

theorem peek_num {a : List Nat} (ha : Bs a) (at_ n : Nat) (hn : n ≤ 32) :
    num ((a.drop (at_ / 8)).take 5) / 2 ^ (at_ % 8) % 2 ^ n = num a / 2 ^ at_ % 2 ^ n := by
  rw [num_take (ha.drop _), num_drop ha, pow256, pow256, show 8 * 5 = 40 from rfl, peek_eq _ _ _ (by omega), Nat.div_div_eq_div_mul, ← Nat.pow_add, show 8 * (at_ / 8) + at_ % 8 = at_ from by omega]

/-- Two numbers of other bits: their 'or' is their sum. -/
theorem or_add (i x y : Nat) (hx : x < 2 ^ i) : x ||| (y * 2 ^ i) = x + y * 2 ^ i := by
  rw [Nat.or_comm, Nat.add_comm]
  exact nat_join i _ _ (Nat.mul_mod_left _ _) hx

theorem mod_step (x d : Nat) : x % 2 ^ (d + 8) = x % 2 ^ d + 2 ^ d * (x / 2 ^ d % 256) := by
  rw [Nat.pow_add, Nat.mod_mul]

/-- A round of Put: the next eight bits are put behind. -/
theorem put_round {bs : List Nat} {N n x d : Nat} (hl : 8 * bs.length = n + d) (hN : num bs = N + x % 2 ^ d * 2 ^ n) :
    num (bs ++ [x / 2 ^ d % 256]) = N + x % 2 ^ (d + 8) * 2 ^ n := by
  rw [num_app, num_one, hN, pow256, hl, mod_step, Nat.add_mul, Nat.pow_add]
  rw [Nat.add_assoc]
  congr 2
  rw [Nat.mul_comm (2 ^ n) (2 ^ d), Nat.mul_assoc, Nat.mul_comm (2 ^ n), ← Nat.mul_assoc]

/-- The last byte takes what it has room for. -/
theorem put_first {bs : List Nat} {N n x f : Nat} (hb : Bs bs) (hl : 8 * bs.length = n + f) (hf : 0 < f) (hf8 : f < 8) (hN : num bs = N) (hlt : N < 2 ^ n) :
    bs.getD (bs.length - 1) 0 ||| (x * 2 ^ (8 - f) % 256) < 256 ∧
    num (bs.set (bs.length - 1) (bs.getD (bs.length - 1) 0 ||| (x * 2 ^ (8 - f) % 256))) = N + x % 2 ^ f * 2 ^ n := by
  have hpos : 0 < bs.length := by omega
  have hn : n = 8 * (bs.length - 1) + (8 - f) := by omega
  have h256 : (256 : Nat) = 2 ^ (8 - f) * 2 ^ f := by rw [← Nat.pow_add, show 8 - f + f = 8 from by omega]
  have hshift : x * 2 ^ (8 - f) % 256 = (x % 2 ^ f) * 2 ^ (8 - f) := by
    rw [h256, Nat.mul_comm x, Nat.mul_mod_mul_left, Nat.mul_comm]
  have hlast : bs.getD (bs.length - 1) 0 < 2 ^ (8 - f) := by
    rw [num_byte hb, hN, pow256]
    refine Nat.lt_of_le_of_lt (Nat.mod_le _ _) ?_
    rw [Nat.div_lt_iff_lt_mul (Nat.two_pow_pos _), ← Nat.pow_add, Nat.add_comm, ← hn]
    exact hlt
  rw [hshift, or_add _ _ _ hlast]
  have hx : x % 2 ^ f < 2 ^ f := Nat.mod_lt _ (Nat.two_pow_pos _)
  constructor
  · rw [h256]
    have : (x % 2 ^ f + 1) * 2 ^ (8 - f) ≤ 2 ^ f * 2 ^ (8 - f) := Nat.mul_le_mul_right _ hx
    rw [Nat.add_mul] at this
    rw [Nat.mul_comm (2 ^ (8 - f))]
    omega
  · have h := num_set (a := bs) (k := bs.length - 1) (by omega) (bs.getD (bs.length - 1) 0 + x % 2 ^ f * 2 ^ (8 - f))
    rw [hN, Nat.mul_add] at h
    have e : x % 2 ^ f * 2 ^ n = 256 ^ (bs.length - 1) * (x % 2 ^ f * 2 ^ (8 - f)) := by
      rw [pow256]
      conv => lhs; rw [hn, Nat.pow_add]
      rw [← Nat.mul_assoc, ← Nat.mul_assoc, Nat.mul_comm (x % 2 ^ f)]
    rw [e]
    omega

theorem put_lt {N n x k : Nat} (hN : N < 2 ^ n) (hx : x < 2 ^ k) : N + x * 2 ^ n < 2 ^ (n + k) := by
  have : (x + 1) * 2 ^ n ≤ 2 ^ k * 2 ^ n := Nat.mul_le_mul_right _ hx
  rw [Nat.add_mul] at this
  rw [Nat.pow_add, Nat.mul_comm (2 ^ n)]
  omega

end Go.Proofs.YtjjjchdocnoabaaDoor
