import Derived.Laws.BitsAllLaws
import Derived.Test.YtnnkegpnjedneaaDoorRows
import Derived.WalkKit
import Derived.WalkSpells
import Derived.WalkLawsBesides
import Derived.Deep.QuietTactic
import Derived.BigQuiet
import Derived.Lib.Hide
import Derived.BigRegion
import Derived.Deep.RegionLawGrows
import Derived.Deep.AppendLies
import Derived.Deep.RegionHeld3
import Derived.Laws.AppendOwnNone
import Derived.OpenShut
import Derived.Deep.MidRow
import Derived.Deep.Cut
import Derived.Laws.Rows
import Derived.Laws.Tables
import Derived.Laws.MakeOwn

/-
  Plain lemmas on numbers and lists of bytes: what a row of bytes tells as one number, its bits, and how bytes are put behind it. No program is named here.
-/
namespace Go.Proofs.YtnnkegpnjedneaaDoor

/-- The number that bytes tell, the lowest byte first. -/
def num : List Nat → Nat
  | [] => 0
  | b :: r => b + 256 * num r

def Bs (l : List Nat) : Prop := ∀ x ∈ l, x < 256

theorem Bs.nil : Bs [] := fun x h => by cases h
theorem Bs.app {a b : List Nat} (ha : Bs a) (hb : Bs b) : Bs (a ++ b) := fun x h => by
  rcases List.mem_append.1 h with h | h
  · exact ha x h
  · exact hb x h
theorem Bs.one {x : Nat} (h : x < 256) : Bs [x] := fun y hy => by
  rcases List.mem_singleton.1 hy with rfl; exact h
theorem Bs.take {a : List Nat} (ha : Bs a) (k : Nat) : Bs (a.take k) := fun x h => ha x (List.mem_of_mem_take h)
theorem Bs.drop {a : List Nat} (ha : Bs a) (k : Nat) : Bs (a.drop k) := fun x h => ha x (List.mem_of_mem_drop h)
theorem Bs.set {a : List Nat} (ha : Bs a) (k : Nat) {x : Nat} (hx : x < 256) : Bs (a.set k x) := fun y h => by
  rcases List.mem_or_eq_of_mem_set h with h | rfl
  · exact ha y h
  · exact hx
theorem Bs.at {a : List Nat} (ha : Bs a) (k : Nat) : a.getD k 0 < 256 := by
  rw [List.getD_eq_getElem?_getD]
  cases h : a[k]? with
  | none => simp
  | some x => simpa using ha x (List.mem_of_getElem? h)

theorem num_app (a b : List Nat) : num (a ++ b) = num a + 256 ^ a.length * num b := by
  induction a with
  | nil => simp [num]
  | cons x r ih =>
    simp only [List.cons_append, num, ih, List.length_cons, Nat.pow_succ, Nat.mul_add]
    rw [show 256 ^ r.length * 256 * num b = 256 * (256 ^ r.length * num b) from by rw [Nat.mul_comm (256 ^ r.length) 256, Nat.mul_assoc]]
    omega

theorem num_one (x : Nat) : num [x] = x := by simp [num]

theorem num_lt {a : List Nat} (ha : Bs a) : num a < 256 ^ a.length := by
  induction a with
  | nil => simp [num]
  | cons x r ih =>
    have h1 := ha x (by simp)
    have h2 := ih fun y hy => ha y (by simp [hy])
    simp only [num, List.length_cons, Nat.pow_succ]
    omega

theorem num_drop {a : List Nat} (ha : Bs a) (k : Nat) : num (a.drop k) = num a / 256 ^ k := by
  induction k generalizing a with
  | zero => simp
  | succ k ih =>
    cases a with
    | nil => simp [num]
    | cons x r =>
      have h1 := ha x (by simp)
      have h2 : Bs r := fun y hy => ha y (by simp [hy])
      rw [List.drop_succ_cons, ih h2, num, Nat.pow_succ, Nat.mul_comm (256 ^ k) 256, ← Nat.div_div_eq_div_mul]
      congr 1
      omega

theorem num_take {a : List Nat} (ha : Bs a) (k : Nat) : num (a.take k) = num a % 256 ^ k := by
  induction k generalizing a with
  | zero => simp [num, Nat.mod_one]
  | succ k ih =>
    cases a with
    | nil => simp [num]
    | cons x r =>
      have h1 := ha x (by simp)
      have h2 : Bs r := fun y hy => ha y (by simp [hy])
      rw [List.take_succ_cons, num, ih h2, num, Nat.pow_succ, Nat.mul_comm (256 ^ k) 256, Nat.mod_mul]
      have e1 : (x + 256 * num r) % 256 = x := by omega
      have e2 : (x + 256 * num r) / 256 = num r := by omega
      rw [e1, e2]

theorem num_byte {a : List Nat} (ha : Bs a) (k : Nat) : a.getD k 0 = num a / 256 ^ k % 256 := by
  rw [← num_drop ha]
  have h := num_take (ha.drop k) 1
  rw [Nat.pow_one] at h
  rw [← h]
  cases hd : a.drop k with
  | nil =>
    have : a.length ≤ k := by simpa using hd
    simp [num, List.getD, List.getElem?_eq_none this]
  | cons x r =>
    have : a[k]? = some x := by
      have := congrArg (·[0]?) hd
      simpa using this
    simp [num, List.getD, this]

theorem num_inj {a b : List Nat} (ha : Bs a) (hb : Bs b) (hl : a.length = b.length) (h : num a = num b) : a = b := by
  apply List.ext_getElem hl
  intro i h1 h2
  have e1 := num_byte ha i
  have e2 := num_byte hb i
  rw [h, ← e2] at e1
  simpa [List.getD, h1, h2] using e1

theorem pow256 (k : Nat) : 256 ^ k = 2 ^ (8 * k) := by rw [show (256 : Nat) = 2 ^ 8 from rfl, ← Nat.pow_mul]

theorem num_set {a : List Nat} {k : Nat} (hk : k < a.length) (x : Nat) : num (a.set k x) + 256 ^ k * a.getD k 0 = num a + 256 ^ k * x := by
  induction a generalizing k with
  | nil => simp at hk
  | cons y r ih =>
    cases k with
    | zero => simp [num]; omega
    | succ k =>
      have h := ih (k := k) (by simpa using hk)
      simp only [List.set_cons_succ, num, List.getD_cons_succ, Nat.pow_succ]
      rw [Nat.mul_comm (256 ^ k) 256, Nat.mul_assoc, Nat.mul_assoc]
      omega

/-- What a look at n bits takes: five bytes are enough. -/
theorem peek_eq (X s n : Nat) (h : s + n ≤ 40) : X % 2 ^ 40 / 2 ^ s % 2 ^ n = X / 2 ^ s % 2 ^ n := by
  apply Nat.eq_of_testBit_eq
  intro i
  simp only [Nat.testBit_mod_two_pow, Nat.testBit_div_two_pow]
  by_cases hi : i < n
  · have : i + s < 40 := by omega
    simp [hi, this]
  · simp [hi]

theorem peek_num {a : List Nat} (ha : Bs a) (at_ n : Nat) (hn : n ≤ 32) :
    num ((a.drop (at_ / 8)).take 5) / 2 ^ (at_ % 8) % 2 ^ n = num a / 2 ^ at_ % 2 ^ n := by
  rw [num_take (ha.drop _), num_drop ha, pow256, pow256, show 8 * 5 = 40 from rfl, peek_eq _ _ _ (by omega), Nat.div_div_eq_div_mul, ← Nat.pow_add, show 8 * (at_ / 8) + at_ % 8 = at_ from by omega]

/-- Two numbers of other bits: their 'or' is their sum. -/
theorem or_add (i x y : Nat) (hx : x < 2 ^ i) : x ||| (y * 2 ^ i) = x + y * 2 ^ i := by
  rw [Nat.or_comm, Nat.add_comm]
  exact nat_join i _ _ (Nat.mul_mod_left _ _) hx

theorem mod_step (x d : Nat) : x % 2 ^ (d + 8) = x % 2 ^ d + 2 ^ d * (x / 2 ^ d % 256) := by
  rw [Nat.pow_add, Nat.mod_mul]

/-- A round of Put: the next eight bits are put behind. -/
theorem put_round {bs : List Nat} {N n x d : Nat} (hl : 8 * bs.length = n + d) (hN : num bs = N + x % 2 ^ d * 2 ^ n) :
    num (bs ++ [x / 2 ^ d % 256]) = N + x % 2 ^ (d + 8) * 2 ^ n := by
  rw [num_app, num_one, hN, pow256, hl, mod_step, Nat.add_mul, Nat.pow_add]
  rw [Nat.add_assoc]
  congr 2
  rw [Nat.mul_comm (2 ^ n) (2 ^ d), Nat.mul_assoc, Nat.mul_comm (2 ^ n), ← Nat.mul_assoc]

/-- The last byte takes what it has room for. -/
theorem put_first {bs : List Nat} {N n x f : Nat} (hb : Bs bs) (hl : 8 * bs.length = n + f) (hf : 0 < f) (hf8 : f < 8) (hN : num bs = N) (hlt : N < 2 ^ n) :
    bs.getD (bs.length - 1) 0 ||| (x * 2 ^ (8 - f) % 256) < 256 ∧
    num (bs.set (bs.length - 1) (bs.getD (bs.length - 1) 0 ||| (x * 2 ^ (8 - f) % 256))) = N + x % 2 ^ f * 2 ^ n := by
  have hpos : 0 < bs.length := by omega
  have hn : n = 8 * (bs.length - 1) + (8 - f) := by omega
  have h256 : (256 : Nat) = 2 ^ (8 - f) * 2 ^ f := by rw [← Nat.pow_add, show 8 - f + f = 8 from by omega]
  have hshift : x * 2 ^ (8 - f) % 256 = (x % 2 ^ f) * 2 ^ (8 - f) := by
    rw [h256, Nat.mul_comm x, Nat.mul_mod_mul_left, Nat.mul_comm]
  have hlast : bs.getD (bs.length - 1) 0 < 2 ^ (8 - f) := by
    rw [num_byte hb, hN, pow256]
    refine Nat.lt_of_le_of_lt (Nat.mod_le _ _) ?_
    rw [Nat.div_lt_iff_lt_mul (Nat.two_pow_pos _), ← Nat.pow_add, Nat.add_comm, ← hn]
    exact hlt
  rw [hshift, or_add _ _ _ hlast]
  have hx : x % 2 ^ f < 2 ^ f := Nat.mod_lt _ (Nat.two_pow_pos _)
  constructor
  · rw [h256]
    have : (x % 2 ^ f + 1) * 2 ^ (8 - f) ≤ 2 ^ f * 2 ^ (8 - f) := Nat.mul_le_mul_right _ hx
    rw [Nat.add_mul] at this
    rw [Nat.mul_comm (2 ^ (8 - f))]
    omega
  · have h := num_set (a := bs) (k := bs.length - 1) (by omega) (bs.getD (bs.length - 1) 0 + x % 2 ^ f * 2 ^ (8 - f))
    rw [hN, Nat.mul_add] at h
    have e : x % 2 ^ f * 2 ^ n = 256 ^ (bs.length - 1) * (x % 2 ^ f * 2 ^ (8 - f)) := by
      rw [pow256]
      conv => lhs; rw [hn, Nat.pow_add]
      rw [← Nat.mul_assoc, ← Nat.mul_assoc, Nat.mul_comm (x % 2 ^ f)]
    rw [e]
    omega

theorem put_lt {N n x k : Nat} (hN : N < 2 ^ n) (hx : x < 2 ^ k) : N + x * 2 ^ n < 2 ^ (n + k) := by
  have : (x + 1) * 2 ^ n ≤ 2 ^ k * 2 ^ n := Nat.mul_le_mul_right _ hx
  rw [Nat.add_mul] at this
  rw [Nat.pow_add, Nat.mul_comm (2 ^ n)]
  omega

end Go.Proofs.YtnnkegpnjedneaaDoor


/-
  Plain lemmas on numbers of 32 bits turned around.
-/
namespace Go.Proofs.YtnnkegpnjedneaaDoor

/-- The lowest n bits of v, turned around. -/
def rv : Nat → Nat → Nat
  | 0, _ => 0
  | n + 1, v => rv n v * 2 + v / 2 ^ n % 2

theorem rv_lt (n v : Nat) : rv n v < 2 ^ n := by
  induction n with
  | zero => simp [rv]
  | succ n ih => rw [rv, Nat.pow_succ]; omega

theorem rv_bit (n v i : Nat) : (rv n v).testBit i = (decide (i < n) && v.testBit (n - 1 - i)) := by
  induction n generalizing i with
  | zero => simp [rv]
  | succ n ih =>
    rw [rv]
    cases i with
    | zero =>
      rw [Nat.testBit_zero]
      have e : (rv n v * 2 + v / 2 ^ n % 2) % 2 = v / 2 ^ n % 2 := by omega
      rw [e, Nat.testBit_eq_decide_div_mod_eq]
      simp
    | succ i =>
      rw [Nat.testBit_succ, show (rv n v * 2 + v / 2 ^ n % 2) / 2 = rv n v from by omega, ih]
      by_cases h : i < n
      · simp [h, show n - (i + 1) = n - 1 - i from by omega]
      · simp [h]

theorem rv_div (n m v : Nat) : rv (n + m) v / 2 ^ m = rv n v := by
  induction m with
  | zero => simp
  | succ m ih =>
    rw [← Nat.add_assoc, rv, Nat.pow_succ, Nat.mul_comm (2 ^ m) 2, ← Nat.div_div_eq_div_mul, show (rv (n + m) v * 2 + v / 2 ^ (n + m) % 2) / 2 = rv (n + m) v from by omega, ih]

theorem rv_rv (n v : Nat) : rv n (rv n v) = v % 2 ^ n := by
  apply Nat.eq_of_testBit_eq
  intro i
  rw [rv_bit, rv_bit, Nat.testBit_mod_two_pow]
  by_cases h : i < n
  · simp [h, show n - 1 - i < n from by omega, show n - 1 - (n - 1 - i) = i from by omega]
  · simp [h]

/-- Neighbours changed: of numbers of 32 bits. -/
def st (m s x : Nat) : Nat := (x / 2 ^ s &&& m) ||| ((x &&& m) * 2 ^ s % 2 ^ 32)

theorem st_lt (m s x : Nat) (hm : m < 2 ^ 32) : st m s x < 2 ^ 32 :=
  Nat.or_lt_two_pow (Nat.lt_of_le_of_lt Nat.and_le_right hm) (Nat.mod_lt _ (by omega))

theorem st_bit (m s x i : Nat) (hi : i < 32) : (st m s x).testBit i = ((x.testBit (i + s) && m.testBit i) || (decide (s ≤ i) && (x.testBit (i - s) && m.testBit (i - s)))) := by
  unfold st
  rw [Nat.testBit_or, Nat.testBit_and, Nat.testBit_div_two_pow, Nat.testBit_mod_two_pow, Nat.testBit_mul_two_pow, Nat.testBit_and]
  simp [hi]

def r32 (v : Nat) : Nat := st 65535 16 (st 16711935 8 (st 252645135 4 (st 858993459 2 (st 1431655765 1 v))))

theorem st_gen {m s : Nat} (x i : Nat) (hi : i < 32) (h1 : m.testBit i = true → i + s = i ^^^ s ∧ (s ≤ i → m.testBit (i - s) = false)) (h2 : m.testBit i = false → s ≤ i ∧ i - s = i ^^^ s ∧ m.testBit (i - s) = true) : (st m s x).testBit i = x.testBit (i ^^^ s) := by
  rw [st_bit _ _ _ _ hi]
  cases hm : m.testBit i with
  | true =>
    obtain ⟨e, f⟩ := h1 hm
    by_cases hs : s ≤ i
    · simp [f hs, ← e]
    · simp [hs, ← e]
  | false =>
    obtain ⟨hs, e, f⟩ := h2 hm
    simp [f, hs, ← e]

theorem m_1 : ∀ i, i < 32 → (Nat.testBit 1431655765 i = true → i + 1 = i ^^^ 1 ∧ (1 ≤ i → Nat.testBit 1431655765 (i - 1) = false)) ∧ (Nat.testBit 1431655765 i = false → 1 ≤ i ∧ i - 1 = i ^^^ 1 ∧ Nat.testBit 1431655765 (i - 1) = true) := by decide
theorem st_1 (x : Nat) : ∀ i, i < 32 → (st 1431655765 1 x).testBit i = x.testBit (i ^^^ 1) := fun i hi => st_gen x i hi (m_1 i hi).1 (m_1 i hi).2
theorem m_2 : ∀ i, i < 32 → (Nat.testBit 858993459 i = true → i + 2 = i ^^^ 2 ∧ (2 ≤ i → Nat.testBit 858993459 (i - 2) = false)) ∧ (Nat.testBit 858993459 i = false → 2 ≤ i ∧ i - 2 = i ^^^ 2 ∧ Nat.testBit 858993459 (i - 2) = true) := by decide
theorem st_2 (x : Nat) : ∀ i, i < 32 → (st 858993459 2 x).testBit i = x.testBit (i ^^^ 2) := fun i hi => st_gen x i hi (m_2 i hi).1 (m_2 i hi).2
theorem m_4 : ∀ i, i < 32 → (Nat.testBit 252645135 i = true → i + 4 = i ^^^ 4 ∧ (4 ≤ i → Nat.testBit 252645135 (i - 4) = false)) ∧ (Nat.testBit 252645135 i = false → 4 ≤ i ∧ i - 4 = i ^^^ 4 ∧ Nat.testBit 252645135 (i - 4) = true) := by decide
theorem st_4 (x : Nat) : ∀ i, i < 32 → (st 252645135 4 x).testBit i = x.testBit (i ^^^ 4) := fun i hi => st_gen x i hi (m_4 i hi).1 (m_4 i hi).2
theorem m_8 : ∀ i, i < 32 → (Nat.testBit 16711935 i = true → i + 8 = i ^^^ 8 ∧ (8 ≤ i → Nat.testBit 16711935 (i - 8) = false)) ∧ (Nat.testBit 16711935 i = false → 8 ≤ i ∧ i - 8 = i ^^^ 8 ∧ Nat.testBit 16711935 (i - 8) = true) := by decide
theorem st_8 (x : Nat) : ∀ i, i < 32 → (st 16711935 8 x).testBit i = x.testBit (i ^^^ 8) := fun i hi => st_gen x i hi (m_8 i hi).1 (m_8 i hi).2
theorem m_16 : ∀ i, i < 32 → (Nat.testBit 65535 i = true → i + 16 = i ^^^ 16 ∧ (16 ≤ i → Nat.testBit 65535 (i - 16) = false)) ∧ (Nat.testBit 65535 i = false → 16 ≤ i ∧ i - 16 = i ^^^ 16 ∧ Nat.testBit 65535 (i - 16) = true) := by decide
theorem st_16 (x : Nat) : ∀ i, i < 32 → (st 65535 16 x).testBit i = x.testBit (i ^^^ 16) := fun i hi => st_gen x i hi (m_16 i hi).1 (m_16 i hi).2

theorem xor_lt {i : Nat} (h : i < 32) (k : Nat) (hk : k < 32) : i ^^^ k < 32 := Nat.xor_lt_two_pow (n := 5) h hk

theorem xor_all : ∀ i, i < 32 → ((((i ^^^ 16) ^^^ 8) ^^^ 4) ^^^ 2) ^^^ 1 = 31 - i := by decide

theorem r32_rv (v : Nat) : r32 v = rv 32 v := by
  apply Nat.eq_of_testBit_eq
  intro i
  by_cases h : i < 32
  · have h1 := xor_lt h 16 (by omega)
    have h2 := xor_lt h1 8 (by omega)
    have h3 := xor_lt h2 4 (by omega)
    have h4 := xor_lt h3 2 (by omega)
    unfold r32
    rw [st_16 _ i h, st_8 _ _ h1, st_4 _ _ h2, st_2 _ _ h3, st_1 _ _ h4, xor_all i h, rv_bit]
    simp [h]
  · have a : r32 v < 2 ^ i := Nat.lt_of_lt_of_le (st_lt _ _ _ (by omega)) (Nat.pow_le_pow_right (by omega) (by omega))
    have b : rv 32 v < 2 ^ i := Nat.lt_of_lt_of_le (rv_lt 32 v) (Nat.pow_le_pow_right (by omega) (by omega))
    rw [Nat.testBit_lt_two_pow a, Nat.testBit_lt_two_pow b]

end Go.Proofs.YtnnkegpnjedneaaDoor


/-
  Contracts of the small functions of package bits.
-/
namespace Go.Proofs.YtnnkegpnjedneaaDoor
open Go.RowKit

theorem bytesFor_any (n : Int) (w : World) (h0 : 0 ≤ n) (h1 : n ≤ 100000000000) :
    Calls Tryd.prog 87 #[.int .i64 n] w fun e w' => e = .returned (.int .i64 ((n + 7) / 8)) ∧ w = w' := by
  go_enter Tryd.func87, Tryd.ntmps87
  go_wp2
  go_ret
  exact ⟨rfl, rfl⟩

theorem isWidth_yes (n : Int) (w : World) (h0 : 0 ≤ n) (h1 : n ≤ 32) :
    Calls Tryd.prog 39 #[.int .i64 n] w fun e w' => e = .returned (.bool true) ∧ w = w' := by
  go_enter Tryd.func39, Tryd.ntmps39
  go_wp2
  go_ret
  exact ⟨by simp, rfl⟩

theorem isWidth_no (n : Int) (w : World) (h0 : n < 0 ∨ 32 < n) :
    Calls Tryd.prog 39 #[.int .i64 n] w fun e w' => e = .returned (.bool false) ∧ w = w' := by
  rcases h0 with h0 | h0
  · go_enter Tryd.func39, Tryd.ntmps39
    go_wp2
    go_ret
    exact ⟨rfl, rfl⟩
  · have : 0 ≤ n := by omega
    have : decide (n ≤ 32) = false := by simp; omega
    go_enter Tryd.func39, Tryd.ntmps39
    go_wp2
    go_ret
    exact ⟨by simp, rfl⟩

theorem low_mask (v n : Nat) (hn : n ≤ 32) (hv : v < 18446744073709551616) :
    bits BinOp.and IntKind.u64 (v : Int) (IntKind.u64.wrap (IntKind.u64.wrap (2 ^ n) - 1)) = ((v % 2 ^ n : Nat) : Int) := by
  have hp : 2 ^ n ≤ 2 ^ 32 := Nat.pow_le_pow_right (by omega) hn
  have hq : 0 < 2 ^ n := Nat.two_pow_pos n
  have e1 : IntKind.u64.wrap ((2 : Int) ^ n) = ((2 ^ n : Nat) : Int) := by
    rw [IntKind.wrap_u64, show (2 : Int) ^ n = ((2 ^ n : Nat) : Int) from by simp]
    omega
  have e2 : IntKind.u64.wrap (((2 ^ n : Nat) : Int) - 1) = ((2 ^ n - 1 : Nat) : Int) := by
    rw [IntKind.wrap_u64]
    omega
  rw [e1, e2, u64_and_nat _ _ hv (by omega), Nat.and_two_pow_sub_one_eq_mod]

theorem ret_int {k : IntKind} {a b : Int} (h : a = b) : Ending.returned (.int k a) = .returned (.int k b) := by rw [h]

theorem lowest_any (v n : Nat) (w : World) (hn : n ≤ 32) (hv : v < 18446744073709551616) :
    Calls Tryd.prog 40 #[.int .u64 v, .int .i64 n] w fun e w' => e = .returned (.int .u64 ((v % 2 ^ n : Nat) : Int)) ∧ w = w' := by
  have H := Lib.hid (low_mask v n hn hv)
  clear hv
  go_enter Tryd.func40, Tryd.ntmps40
  go_wp2
  go_ret
  exact ⟨ret_int H.out, rfl⟩

theorem two_cell {w : World} {p : Nat} {a b : Value} {t : TypeId} (h : w.heap[p]? = some (.cells #[a, b] t (0, 0))) :
    w.cell? ⟨p, 0, none⟩ = some a ∧ w.cell? ⟨p, 1, none⟩ = some b ∧ w.frozen? ⟨p, 0, none⟩ = false ∧ w.frozen? ⟨p, 1, none⟩ = false := by
  simp [World.cell?, World.frozen?, h]

theorem at_walk (p : Nat) (n : Int) (w : World) (h1 : w.cell? ⟨p, 1, none⟩ = some (.int .i64 n)) :
    Calls Tryd.prog 34 #[.pointer (some ⟨p, 0, none⟩)] w fun e w' => e = .returned (.int .i64 n) ∧ w = w' := by
  go_enter Tryd.func34, Tryd.ntmps34
  go_wp2
  go_ret
  exact ⟨rfl, rfl⟩

theorem left_walk (p : Nat) (n : Int) (ao : Option Addr) (len cap : Nat) (w : World) (hl : len ≤ 1000000000) (hn : 0 ≤ n) (hn2 : n ≤ 8000000000)
   (h0 : w.cell? ⟨p, 0, none⟩ = some (.slice ao len cap))
   (h1 : w.cell? ⟨p, 1, none⟩ = some (.int .i64 n)) :
    Calls Tryd.prog 86 #[.pointer (some ⟨p, 0, none⟩)] w fun e w' => e = .returned (.int .i64 (8 * len - n)) ∧ ∃ nq, w' = w.drewN nq := by
  go_enter Tryd.func86, Tryd.ntmps86
  go_wp2
  go_quiet (fail)
  go_wp2
  go_ret
  exact ⟨ret_int (by omega), _, rfl⟩

set_option maxHeartbeats 400000 in
theorem skip_yes (p : Nat) (n at_ : Int) (ao : Option Addr) (len cap : Nat) (w : World) (hl : len ≤ 1000000000) (ha : 0 ≤ at_) (hn : 0 ≤ n) (hn2 : n ≤ 8 * len - at_)
   (h0 : w.cell? ⟨p, 0, none⟩ = some (.slice ao len cap)) (h1 : w.cell? ⟨p, 1, none⟩ = some (.int .i64 at_)) (f1 : w.frozen? ⟨p, 1, none⟩ = false) :
    Calls Tryd.prog 74 #[.pointer (some ⟨p, 0, none⟩), .int .i64 n] w fun e w' => e = .returned (.bool true) ∧ ∃ nq, w' = (w.drewN nq).setCell ⟨p, 1, none⟩ (.int .i64 (at_ + n)) := by
  go_enter Tryd.func74, Tryd.ntmps74
  go_wp2_with (go_at_call 86; refine (left_walk p at_ ao len cap _ hl ha (by omega) h0 h1).mono ?_; rintro e w' ⟨rfl, nq, rfl⟩)
  go_ret
  exact ⟨rfl, _, rfl⟩

theorem skip_no (p : Nat) (n at_ : Int) (ao : Option Addr) (len cap : Nat) (w : World) (hl : len ≤ 1000000000) (ha : 0 ≤ at_) (ha2 : at_ ≤ 8 * len) (hn : n < 0 ∨ 8 * len - at_ < n)
   (h0 : w.cell? ⟨p, 0, none⟩ = some (.slice ao len cap)) (h1 : w.cell? ⟨p, 1, none⟩ = some (.int .i64 at_)) :
    Calls Tryd.prog 74 #[.pointer (some ⟨p, 0, none⟩), .int .i64 n] w fun e w' => e = .returned (.bool false) ∧ ∃ nq, w' = w.drewN nq := by
  rcases hn with hn | hn
  · go_enter Tryd.func74, Tryd.ntmps74
    go_wp2
    go_ret
    exact ⟨rfl, 0, rfl⟩
  · have hn0 : 0 ≤ n := by omega
    go_enter Tryd.func74, Tryd.ntmps74
    go_wp2_with (go_at_call 86; refine (left_walk p at_ ao len cap _ hl ha (by omega) h0 h1).mono ?_; rintro e w' ⟨rfl, nq, rfl⟩)
    go_ret
    exact ⟨rfl, _, rfl⟩
end Go.Proofs.YtnnkegpnjedneaaDoor


/-
  Contracts of Peek: what a look at the bits ahead answers.
-/
namespace Go.Proofs.YtnnkegpnjedneaaDoor
open Go.RowKit

theorem peek_no (p : Nat) (n : Int) (w : World) (hn : n < 0 ∨ 32 < n) :
    Calls Tryd.prog 73 #[.pointer (some ⟨p, 0, none⟩), .int .i64 n] w fun e w' => e = .returned (.int .u32 0) ∧ w = w' := by
  go_enter Tryd.func73, Tryd.ntmps73
  go_wp2_with (go_at_call 39; refine (isWidth_no n _ hn).mono ?_; rintro e w' ⟨rfl, rfl⟩)
  go_ret
  exact ⟨rfl, rfl⟩

def byt (bs : List Nat) (j : Nat) : Nat := bs.getD j 0

/-- What has been gathered behind k bytes. -/
def pv (bs : List Nat) (f k : Nat) : Nat := num ((bs.drop f).take k)

theorem pv_lt {bs : List Nat} (hb : Bs bs) (f k : Nat) (hk : k ≤ 5) : pv bs f k < 1099511627776 := by
  have h := num_lt ((hb.drop f).take k)
  have h2 : 256 ^ ((bs.drop f).take k).length ≤ 256 ^ 5 := Nat.pow_le_pow_right (by omega) (by rw [List.length_take]; omega)
  have : (256 : Nat) ^ 5 = 1099511627776 := rfl
  unfold pv; omega

theorem pv_step {bs : List Nat} (hb : Bs bs) (f k : Nat) (hk : k < 5) (hl : f + k < bs.length) :
    bits BinOp.or IntKind.u64 (pv bs f k : Int) (IntKind.u64.wrap (IntKind.u64.wrap (byt bs (f + k) : Int) * 2 ^ (8 * k))) = ((pv bs f (k + 1) : Nat) : Int) := by
  have hx := hb.at (f + k)
  unfold byt
  have e1 : pv bs f (k + 1) = pv bs f k + bs.getD (f + k) 0 * 2 ^ (8 * k) := by
    unfold pv
    have hlk : k < (bs.drop f).length := by rw [List.length_drop]; omega
    rw [List.take_succ_eq_append_getElem hlk, num_app, num_one, List.length_take, Nat.min_eq_left (by omega), pow256, Nat.mul_comm]
    congr 2
    simp [List.getD, hl]
  have h1 := pv_lt hb f (k + 1) (by omega)
  have h2 : pv bs f k < 2 ^ (8 * k) := by
    have h := num_lt ((hb.drop f).take k)
    rw [pow256, List.length_take, Nat.min_eq_left (by rw [List.length_drop]; omega)] at h
    exact h
  generalize bs.getD (f + k) 0 = x at *
  have e0 : IntKind.u64.wrap (x : Int) = (x : Int) := by rw [IntKind.wrap_u64]; omega
  rw [e0]
  have e2 : IntKind.u64.wrap ((x : Int) * 2 ^ (8 * k)) = ((x * 2 ^ (8 * k) : Nat) : Int) := by
    rw [IntKind.wrap_u64]
    rw [show (x : Int) * 2 ^ (8 * k) = ((x * 2 ^ (8 * k) : Nat) : Int) from by simp]
    omega
  rw [e2, u64_or_nat _ _ (by omega) (by omega), or_add _ _ _ h2, e1]

theorem peek_end {bs : List Nat} {len : Nat} (hb : Bs bs) (hl : bs.length = len) (at_ n : Nat) (h : len - at_ / 8 ≤ 5) (hn : n ≤ 32) :
    pv bs (at_ / 8) (len - at_ / 8) / 2 ^ (at_ % 8) % 2 ^ n = num bs / 2 ^ at_ % 2 ^ n := by
  rw [← peek_num hb at_ n hn]
  unfold pv
  rw [List.take_of_length_le (by rw [List.length_drop]; omega), List.take_of_length_le (by rw [List.length_drop]; omega)]

theorem lowest_int (v : Int) (V n : Nat) (w : World) (hv : v = (V : Int)) (hn : n ≤ 32) (hV : V < 18446744073709551616) :
    Calls Tryd.prog 40 #[.int .u64 v, .int .i64 n] w fun e w' => e = .returned (.int .u64 ((V % 2 ^ n : Nat) : Int)) ∧ w = w' := by
  rw [hv]; exact lowest_any V n w hn hV

theorem wrap_low (V n : Nat) (hn : n ≤ 32) : IntKind.u32.wrap ((V % 2 ^ n : Nat) : Int) = ((V % 2 ^ n : Nat) : Int) := by
  have hp : 2 ^ n ≤ 2 ^ 32 := Nat.pow_le_pow_right (by omega) hn
  have hq := Nat.mod_lt V (Nat.two_pow_pos n)
  rw [IntKind.wrap_u32']
  omega

set_option maxHeartbeats 800000 in
theorem peek_yes (p g at_ n : Nat) (len cap : Nat) (bs : List Nat) (w : World) (hl : len ≤ 1000000000) (hlc : len ≤ cap) (hbl : bs.length = len) (hb : Bs bs) (ha : at_ ≤ 8 * len) (hn : n ≤ 32)
   (h0 : w.cell? ⟨p, 0, none⟩ = some (.slice (some ⟨g, 0, none⟩) len cap)) (h1 : w.cell? ⟨p, 1, none⟩ = some (.int .i64 at_)) 
   (hc : ∀ j, j < len → w.cell? ⟨g, j, none⟩ = some (.int .u8 (byt bs j : Int))) :
    Calls Tryd.prog 73 #[.pointer (some ⟨p, 0, none⟩), .int .i64 n] w fun e w' => e = .returned (.int .u32 ((num bs / 2 ^ at_ % 2 ^ n : Nat) : Int)) ∧ w = w' := by
  have hfl : at_ / 8 ≤ len := by omega
  have HB := Lib.hid hb
  have HBL := Lib.hid hbl
  have HC := Lib.hid hc
  clear hc hbl hb
  by_cases hcase : at_ / 8 + 5 ≤ len
  · have hcc : ¬ cap = at_ / 8 := by omega
    go_enter Tryd.func73, Tryd.ntmps73
    go_wp2_with (go_at_call 39; refine (isWidth_yes n _ (by omega) (by omega)).mono ?_; rintro e w' ⟨rfl, rfl⟩)
    go_loop [7, 8, 9, 34] (fun v _ _ i => ∃ k : Nat, k ≤ 5 ∧ i = .int .i64 k ∧ v = .int .u64 (pv bs (at_ / 8) k : Nat)) (fun _ _ _ i => 5 - (intOf i).toNat)
    case atStart => exact ⟨0, Nat.zero_le _, rfl, by simp [pv, num]⟩
    case round =>
      obtain ⟨k, hk, rfl, rfl⟩ := hrel
      have hpl := pv_lt HB.out (at_ / 8) k (by omega)
      have hpd : pv bs (at_ / 8) k / 2 ^ (at_ % 8) ≤ pv bs (at_ / 8) k := Nat.div_le_self _ _
      by_cases hlt : k < 5
      · have hcell := HC.out (at_ / 8 + k) (by omega)
        have hkk : (k : Int) ≤ 5 := by omega
        go_wp2
        go_round
        case rel =>
          refine ⟨k + 1, by omega, by go_num, ?_⟩
          have hs := pv_step HB.out (at_ / 8) k (by omega) (by have := HBL.out; omega)
          rw [← hs]
        case measure => simp [intOf]; omega
      · have HL := Lib.hid (show pv bs (at_ / 8) k / 2 ^ (at_ % 8) % 2 ^ n = num bs / 2 ^ at_ % 2 ^ n from by rw [show k = 5 from by omega]; exact peek_num HB.out at_ n hn)
        have hpu : pv bs (at_ / 8) k / 2 ^ (at_ % 8) < 18446744073709551616 := by omega
        have HPU := Lib.hid hpu
        clear hpu
        go_wp2_with (go_at_call 40; refine (lowest_int _ (pv bs (at_ / 8) k / 2 ^ (at_ % 8)) n _ (by simp) hn HPU.out).mono ?_; rintro e w' ⟨rfl, rfl⟩)
        go_ret
        refine ⟨ret_int ?_, rfl⟩
        rw [← HL.out]
        exact wrap_low _ _ hn
  · by_cases hcc : cap = at_ / 8
    · go_enter Tryd.func73, Tryd.ntmps73
      go_wp2_with (go_at_call 39; refine (isWidth_yes n _ (by omega) (by omega)).mono ?_; rintro e w' ⟨rfl, rfl⟩)
      go_loop [7, 8, 9, 34] (fun v _ _ i => ∃ k : Nat, k ≤ (len - at_ / 8) ∧ i = .int .i64 k ∧ v = .int .u64 (pv bs (at_ / 8) k : Nat)) (fun _ _ _ i => (len - at_ / 8) - (intOf i).toNat)
      case atStart => exact ⟨0, Nat.zero_le _, rfl, by simp [pv, num]⟩
      case round =>
        obtain ⟨k, hk, rfl, rfl⟩ := hrel
        have hpl := pv_lt HB.out (at_ / 8) k (by omega)
        have hpd : pv bs (at_ / 8) k / 2 ^ (at_ % 8) ≤ pv bs (at_ / 8) k := Nat.div_le_self _ _
        by_cases hlt : k < (len - at_ / 8)
        · exact absurd hlt (by omega)
        · have HL := Lib.hid (show pv bs (at_ / 8) k / 2 ^ (at_ % 8) % 2 ^ n = num bs / 2 ^ at_ % 2 ^ n from by rw [show k = len - at_ / 8 from by omega]; exact peek_end HB.out HBL.out at_ n (by omega) hn)
          have hpu : pv bs (at_ / 8) k / 2 ^ (at_ % 8) < 18446744073709551616 := by omega
          have HPU := Lib.hid hpu
          clear hpu
          go_wp2_with (go_at_call 40; refine (lowest_int _ (pv bs (at_ / 8) k / 2 ^ (at_ % 8)) n _ (by simp) hn HPU.out).mono ?_; rintro e w' ⟨rfl, rfl⟩)
          go_ret
          refine ⟨ret_int ?_, rfl⟩
          rw [← HL.out]
          exact wrap_low _ _ hn
    · go_enter Tryd.func73, Tryd.ntmps73
      go_wp2_with (go_at_call 39; refine (isWidth_yes n _ (by omega) (by omega)).mono ?_; rintro e w' ⟨rfl, rfl⟩)
      go_loop [7, 8, 9, 34] (fun v _ _ i => ∃ k : Nat, k ≤ (len - at_ / 8) ∧ i = .int .i64 k ∧ v = .int .u64 (pv bs (at_ / 8) k : Nat)) (fun _ _ _ i => (len - at_ / 8) - (intOf i).toNat)
      case atStart => exact ⟨0, Nat.zero_le _, rfl, by simp [pv, num]⟩
      case round =>
        obtain ⟨k, hk, rfl, rfl⟩ := hrel
        have hpl := pv_lt HB.out (at_ / 8) k (by omega)
        have hpd : pv bs (at_ / 8) k / 2 ^ (at_ % 8) ≤ pv bs (at_ / 8) k := Nat.div_le_self _ _
        by_cases hlt : k < (len - at_ / 8)
        · have hcell := HC.out (at_ / 8 + k) (by omega)
          have hkk : (k : Int) ≤ 5 := by omega
          go_wp2
          go_round
          case rel =>
            refine ⟨k + 1, by omega, by go_num, ?_⟩
            have hs := pv_step HB.out (at_ / 8) k (by omega) (by have := HBL.out; omega)
            rw [← hs]
          case measure => simp [intOf]; omega
        · have HL := Lib.hid (show pv bs (at_ / 8) k / 2 ^ (at_ % 8) % 2 ^ n = num bs / 2 ^ at_ % 2 ^ n from by rw [show k = len - at_ / 8 from by omega]; exact peek_end HB.out HBL.out at_ n (by omega) hn)
          have hpu : pv bs (at_ / 8) k / 2 ^ (at_ % 8) < 18446744073709551616 := by omega
          have HPU := Lib.hid hpu
          clear hpu
          go_wp2_with (go_at_call 40; refine (lowest_int _ (pv bs (at_ / 8) k / 2 ^ (at_ % 8)) n _ (by simp) hn HPU.out).mono ?_; rintro e w' ⟨rfl, rfl⟩)
          go_ret
          refine ⟨ret_int ?_, rfl⟩
          rw [← HL.out]
          exact wrap_low _ _ hn
end Go.Proofs.YtnnkegpnjedneaaDoor


/-
  Objects of two cells whose bytes lie in a row of the call's own; what a reader's Peek answers of such an object.
-/
namespace Go.Proofs.YtnnkegpnjedneaaDoor
open Go.RowKit

/-- Of the blocks of w only those of S may have changed. -/
structure Touch (S : Nat → Prop) (w w' : World) : Prop where
  os : w'.os = w.os
  tape : w'.tape = w.tape
  output : w'.output = w.output
  size : w.heap.size ≤ w'.heap.size
  block : ∀ k, k < w.heap.size → ¬ S k → w'.heap[k]? = w.heap[k]?

theorem Touch.refl (S : Nat → Prop) (w : World) : Touch S w w := ⟨rfl, rfl, rfl, Nat.le_refl _, fun _ _ _ => rfl⟩
theorem Touch.trans {S : Nat → Prop} {a b c : World} (h : Touch S a b) (k : Touch S b c) : Touch S a c :=
  ⟨k.os.trans h.os, k.tape.trans h.tape, k.output.trans h.output, Nat.le_trans h.size k.size, fun i hi hs => (k.block i (Nat.lt_of_lt_of_le hi h.size) hs).trans (h.block i hi hs)⟩
/-- The second step may also touch what the first one has made. -/
theorem Touch.trans' {S T : Nat → Prop} {a b c : World} (h : Touch S a b) (k : Touch T b c) (hT : ∀ i, T i → i < a.heap.size → S i) : Touch S a c :=
  ⟨k.os.trans h.os, k.tape.trans h.tape, k.output.trans h.output, Nat.le_trans h.size k.size, fun i hi hs => (k.block i (Nat.lt_of_lt_of_le hi h.size) (fun ht => hs (hT i ht hi))).trans (h.block i hi hs)⟩
theorem Touch.mono {S T : Nat → Prop} {a b : World} (h : Touch S a b) (hT : ∀ i, S i → T i) : Touch T a b :=
  ⟨h.os, h.tape, h.output, h.size, fun i hi hs => h.block i hi fun s => hs (hT i s)⟩
theorem Touch.drewN {S : Nat → Prop} {a w : World} (h : Touch S a w) (n : Nat) : Touch S a (w.drewN n) := ⟨h.os, h.tape, h.output, h.size, h.block⟩
theorem Touch.drew {S : Nat → Prop} {a w : World} (h : Touch S a w) : Touch S a w.drew := ⟨h.os, h.tape, h.output, h.size, h.block⟩
theorem Touch.alloc {S : Nat → Prop} {a w : World} (h : Touch S a w) (o : Obj) : Touch S a (w.alloc o) :=
  h.trans ⟨rfl, rfl, rfl, by simp, fun k hk _ => Below.heap_alloc _ _ _ hk⟩
theorem Touch.setCell {S : Nat → Prop} {a w : World} (h : Touch S a w) (p : Addr) (u : Value) (hp : S p.block ∨ a.heap.size ≤ p.block) : Touch S a (w.setCell p u) :=
  ⟨h.os, h.tape, h.output, Nat.le_trans h.size (by simp [World.setCell]), fun k hk hs => (Below.heap_setCell _ _ _ _ (fun e => by subst e; rcases hp with hp | hp; exact hs hp; omega)).trans (h.block k hk hs)⟩
theorem Touch.grown {S : Nat → Prop} {a w w' : World} {row : Option Nat} (h : Touch S a w) (hg : w.grownBy w' row) (hr : ∀ k, row = some k → S k ∨ a.heap.size ≤ k) : Touch S a w' :=
  ⟨hg.os.trans h.os, hg.tape.trans h.tape, hg.output.trans h.output, Nat.le_trans h.size hg.size, fun k hk hs =>
    (hg.block k (Nat.lt_of_lt_of_le hk h.size) (fun e => by rcases hr k e.symm with hp | hp; exact hs hp; omega)).trans (h.block k hk hs)⟩
theorem Touch.below {S : Nat → Prop} {a b : World} {B : Nat} (h : Touch S a b) (hB : B ≤ a.heap.size) (hS : ∀ k, S k → B ≤ k) : Below B a b :=
  ⟨h.os, h.tape, h.output, h.size, fun k hk => h.block k (by omega) fun s => by have := hS k s; omega⟩

/-- An object of two cells, bytes and a number, whose bytes lie in a row of the call's own (block g). -/
structure Ob (w : World) (base t p : Nat) (g : Option Nat) (bs : List Nat) (n : Nat) : Prop where
  blk : ∃ sv, w.heap[p]? = some (.cells #[sv, .int .i64 n] t (0, 0)) ∧ sv.ownBlock = g ∧ w.ownsRow base 5 1 sv bs.length (bs.map fun x : Nat => Value.int .u8 (x : Int))
  hp : base ≤ p
  hb : Bs bs
  ht : t ≠ 5

/-- The blocks of such an object. -/
def Foot (p : Nat) (g : Option Nat) (k : Nat) : Prop := k = p ∨ g = some k

theorem ownsRow_touch {S : Nat → Prop} {w w' : World} {base : Nat} {e : TypeId} {size : Nat} {v : Value} {n : Nat} {xs : List Value} (h : w.ownsRow base e size v n xs) (ht : Touch S w w') (hs : ∀ k, v.ownBlock = some k → ¬ S k) : w'.ownsRow base e size v n xs := by
  refine ⟨h.1, ?_⟩
  rcases h.2 with hn | ⟨g, cap, cur, rfl, hb, hgg, rest⟩
  · exact .inl hn
  · refine .inr ⟨g, cap, cur, rfl, hb, ?_, rest⟩
    rw [ht.block g (Array.getElem?_eq_some_iff.1 hgg).1 (hs g (by simp [Value.ownBlock]))]
    exact hgg

theorem Ob.lt {w : World} {base t p : Nat} {g : Option Nat} {bs : List Nat} {n : Nat} (h : Ob w base t p g bs n) : p < w.heap.size ∧ ∀ k, g = some k → base ≤ k ∧ k < w.heap.size ∧ k ≠ p := by
  obtain ⟨sv, h1, rfl, h3⟩ := h.blk
  refine ⟨lt_of_block h1, fun k hk => ⟨(h3.lt k hk).1, (h3.lt k hk).2, fun e => ?_⟩⟩
  rcases h3.2 with ⟨rfl, _⟩ | ⟨g', cap, cur, rfl, _, hh, _⟩
  · simp [Value.ownBlock] at hk
  · simp [Value.ownBlock] at hk
    subst hk; subst e
    rw [hh] at h1
    simp at h1
    exact h.ht h1.2.symm

theorem Ob.touch {S : Nat → Prop} {w w' : World} {base t p : Nat} {g : Option Nat} {bs : List Nat} {n : Nat} (h : Ob w base t p g bs n) (ht : Touch S w w') (hs : ∀ k, Foot p g k → ¬ S k) : Ob w' base t p g bs n := by
  obtain ⟨hp, hg⟩ := h.lt
  obtain ⟨sv, h1, h2, h3⟩ := h.blk
  exact ⟨⟨sv, (ht.block p hp (hs p (.inl rfl))).trans h1, h2, ownsRow_touch h3 ht fun k hk => hs k (.inr (h2 ▸ hk))⟩, h.hp, h.hb, h.ht⟩

theorem Ob.foot_lt {w : World} {base t p : Nat} {g : Option Nat} {bs : List Nat} {n : Nat} (h : Ob w base t p g bs n) {k : Nat} (hk : Foot p g k) : base ≤ k ∧ k < w.heap.size := by
  rcases hk with rfl | hk
  · exact ⟨h.hp, h.lt.1⟩
  · exact ⟨(h.lt.2 k hk).1, (h.lt.2 k hk).2.1⟩

theorem Ob.drewN {w : World} {base t p : Nat} {g : Option Nat} {bs : List Nat} {n : Nat} (h : Ob w base t p g bs n) (m : Nat) : Ob (w.drewN m) base t p g bs n := ⟨h.blk, h.hp, h.hb, h.ht⟩

/-- What the walk wants of such an object. -/
structure Seen (w : World) (base p : Nat) (g : Option Nat) (bs : List Nat) (n : Nat) (sv : Value) : Prop where
  c0 : w.cell? ⟨p, 0, none⟩ = some sv
  c1 : w.cell? ⟨p, 1, none⟩ = some (.int .i64 n)
  f0 : w.frozen? ⟨p, 0, none⟩ = false
  f1 : w.frozen? ⟨p, 1, none⟩ = false
  own : w.ownsRow base 5 1 sv bs.length (bs.map fun x : Nat => Value.int .u8 (x : Int))
  hg : sv.ownBlock = g

theorem row_cell {w : World} {base g cap : Nat} {bs : List Nat} (h : w.ownsRow base 5 1 (.slice (some ⟨g, 0, none⟩) bs.length cap) bs.length (bs.map fun x : Nat => Value.int .u8 (x : Int))) (j : Nat) (hj : j < bs.length) : w.cell? ⟨g, j, none⟩ = some (.int .u8 (byt bs j)) := by
  rw [h.cellAt j (by omega)]
  simp [byt, List.getD, hj]

theorem Ob.see {w : World} {base t p : Nat} {g : Option Nat} {bs : List Nat} {n : Nat} (h : Ob w base t p g bs n) :
    (Seen w base p g bs n (.slice none 0 0) ∧ bs = [] ∧ g = none) ∨
    ∃ g0 cap, Seen w base p g bs n (.slice (some ⟨g0, 0, none⟩) bs.length cap) ∧ g = some g0 ∧ bs.length ≤ cap ∧ cap ≤ maxLen := by
  obtain ⟨sv, h1, h2, h3⟩ := h.blk
  obtain ⟨c0, c1, f0, f1⟩ := two_cell h1
  have hs : Seen w base p g bs n sv := ⟨c0, c1, f0, f1, h3, h2⟩
  rcases h3.2 with ⟨rfl, hl⟩ | ⟨g', cap, cur, rfl, _, hh, hc, hm, _⟩
  · exact .inl ⟨hs, List.eq_nil_of_length_eq_zero hl, by simpa [Value.ownBlock] using h2.symm⟩
  · exact .inr ⟨g', cap, hs, by simpa [Value.ownBlock] using h2.symm, hc, hm⟩

/-- Behind a store into the second cell. -/
theorem two_set1 {w : World} {p : Nat} {a b u : Value} {t : TypeId} (h : w.heap[p]? = some (.cells #[a, b] t (0, 0))) : (w.setCell ⟨p, 1, none⟩ u).heap[p]? = some (.cells #[a, u] t (0, 0)) := by
  have hlt := lt_of_block h
  have h' : w.heap[p] = .cells #[a, b] t (0, 0) := by simpa [Array.getElem?_eq_getElem hlt] using h
  show (w.heap.modify p _)[p]? = _
  rw [Array.getElem?_eq_getElem (by simpa using hlt), Array.getElem_modify_self, h']
  rfl
theorem two_set0 {w : World} {p : Nat} {a b u : Value} {t : TypeId} (h : w.heap[p]? = some (.cells #[a, b] t (0, 0))) : (w.setCell ⟨p, 0, none⟩ u).heap[p]? = some (.cells #[u, b] t (0, 0)) := by
  have hlt := lt_of_block h
  have h' : w.heap[p] = .cells #[a, b] t (0, 0) := by simpa [Array.getElem?_eq_getElem hlt] using h
  show (w.heap.modify p _)[p]? = _
  rw [Array.getElem?_eq_getElem (by simpa using hlt), Array.getElem_modify_self, h']
  rfl

theorem Ob.set1 {w : World} {base t p : Nat} {g : Option Nat} {bs : List Nat} {n : Nat} (h : Ob w base t p g bs n) (m : Nat) : Ob (w.setCell ⟨p, 1, none⟩ (.int .i64 m)) base t p g bs m := by
  have hg := h.lt.2
  obtain ⟨sv, h1, h2, h3⟩ := h.blk
  exact ⟨⟨sv, two_set1 h1, h2, ownsRow_setCell_other h3 (fun e => by have := hg p (h2 ▸ e); omega) _⟩, h.hp, h.hb, h.ht⟩

/-! ### The reader -/
def pk (bs : List Nat) (at_ n : Nat) : Nat := num bs / 2 ^ at_ % 2 ^ n

theorem peek_nil (p n : Nat) (w : World) (hn : n ≤ 32)
   (h0 : w.cell? ⟨p, 0, none⟩ = some (.slice none 0 0)) (h1 : w.cell? ⟨p, 1, none⟩ = some (.int .i64 0)) :
    Calls Tryd.prog 73 #[.pointer (some ⟨p, 0, none⟩), .int .i64 n] w fun e w' => e = .returned (.int .u32 ((pk [] 0 n : Nat) : Int)) ∧ w = w' := by
  have HL := Lib.hid (show IntKind.u32.wrap ((0 % 2 ^ n : Nat) : Int) = ((pk [] 0 n : Nat) : Int) by unfold pk; simp [num]; rfl)
  go_enter Tryd.func73, Tryd.ntmps73
  go_wp2_with (go_at_call 39; refine (isWidth_yes n _ (by omega) (by omega)).mono ?_; rintro e w' ⟨rfl, rfl⟩)
  refine wp_loop_rounds 1 ?_
  rw [rounds_succ]
  go_wp2_with (go_at_call 40; refine (lowest_int _ 0 n _ (by simp) hn (by omega)).mono ?_; rintro e w' ⟨rfl, rfl⟩)
  go_ret
  exact ⟨ret_int HL.out, rfl⟩

theorem Ob.peek {w : World} {base p : Nat} {g : Option Nat} {bs : List Nat} {at_ : Nat} (h : Ob w base 96 p g bs at_) (hl : bs.length ≤ 1000000000) (ha : at_ ≤ 8 * bs.length) (n : Nat) (hn : n ≤ 32) :
    Calls Tryd.prog 73 #[.pointer (some ⟨p, 0, none⟩), .int .i64 n] w fun e w' => e = .returned (.int .u32 ((pk bs at_ n : Nat) : Int)) ∧ w = w' := by
  rcases h.see with ⟨s, rfl, rfl⟩ | ⟨g0, cap, s, rfl, hc, hm⟩
  · have : at_ = 0 := by simpa using ha
    subst this
    exact peek_nil p n w hn s.c0 s.c1
  · exact peek_yes p g0 at_ n bs.length cap bs w hl hc rfl h.hb ha hn s.c0 s.c1 fun j hj => row_cell s.own j hj

end Go.Proofs.YtnnkegpnjedneaaDoor


/-
  Contracts of a reader's other calls.
-/
namespace Go.Proofs.YtnnkegpnjedneaaDoor
open Go.RowKit

/-- Only block p may have changed; there stands an object with the number m. -/
def Moved (w : World) (base t p : Nat) (g : Option Nat) (bs : List Nat) (m : Nat) (w' : World) : Prop :=
  Ob w' base t p g bs m ∧ Touch (fun k => k = p) w w'

theorem Moved.mk' {w : World} {base t p : Nat} {g : Option Nat} {bs : List Nat} {n : Nat} (h : Ob w base t p g bs n) (nq m : Nat) {x : Int} (hx : x = (m : Int)) :
    Moved w base t p g bs m ((w.drewN nq).setCell ⟨p, 1, none⟩ (.int .i64 x)) := by
  subst hx
  exact ⟨(h.drewN nq).set1 m, ((Touch.refl _ w).drewN nq).setCell _ _ (.inl rfl)⟩

theorem Ob.left {w : World} {base p : Nat} {g : Option Nat} {bs : List Nat} {at_ : Nat} (h : Ob w base 96 p g bs at_) (hl : bs.length ≤ 1000000000) (ha : at_ ≤ 8 * bs.length) :
    Calls Tryd.prog 86 #[.pointer (some ⟨p, 0, none⟩)] w fun e w' => e = .returned (.int .i64 (8 * bs.length - at_)) ∧ ∃ nq, w' = w.drewN nq := by
  rcases h.see with ⟨s, rfl, rfl⟩ | ⟨g0, cap, s, rfl, hc, hm⟩
  · exact left_walk p at_ none 0 0 w (by omega) (by omega) (by simp at ha; omega) s.c0 s.c1
  · exact left_walk p at_ _ bs.length cap w hl (by omega) (by omega) s.c0 s.c1

theorem Ob.at {w : World} {base t p : Nat} {g : Option Nat} {bs : List Nat} {at_ : Nat} (h : Ob w base t p g bs at_) :
    Calls Tryd.prog 34 #[.pointer (some ⟨p, 0, none⟩)] w fun e w' => e = .returned (.int .i64 at_) ∧ w = w' := by
  obtain ⟨sv, h1, _⟩ := h.blk
  exact at_walk p at_ w (two_cell h1).2.1

theorem Ob.skip_yes {w : World} {base p : Nat} {g : Option Nat} {bs : List Nat} {at_ : Nat} (h : Ob w base 96 p g bs at_) (hl : bs.length ≤ 1000000000) (n : Nat) (hn : at_ + n ≤ 8 * bs.length) :
    Calls Tryd.prog 74 #[.pointer (some ⟨p, 0, none⟩), .int .i64 n] w fun e w' => e = .returned (.bool true) ∧ Moved w base 96 p g bs (at_ + n) w' := by
  rcases h.see with ⟨s, rfl, rfl⟩ | ⟨g0, cap, s, rfl, hc, hm⟩
  · simp only [List.length_nil] at hn
    exact (YtnnkegpnjedneaaDoor.skip_yes p n at_ none 0 0 w (by omega) (by omega) (by omega) (by omega) s.c0 s.c1 s.f1).mono fun e w' ⟨he, nq, hw⟩ => ⟨he, hw ▸ Moved.mk' h nq _ (by omega)⟩
  · exact (YtnnkegpnjedneaaDoor.skip_yes p n at_ _ bs.length cap w hl (by omega) (by omega) (by omega) s.c0 s.c1 s.f1).mono fun e w' ⟨he, nq, hw⟩ => ⟨he, hw ▸ Moved.mk' h nq _ (by omega)⟩

theorem Ob.skip_no {w : World} {base p : Nat} {g : Option Nat} {bs : List Nat} {at_ : Nat} (h : Ob w base 96 p g bs at_) (hl : bs.length ≤ 1000000000) (ha : at_ ≤ 8 * bs.length) (n : Int) (hn : n < 0 ∨ 8 * (bs.length : Int) - at_ < n) :
    Calls Tryd.prog 74 #[.pointer (some ⟨p, 0, none⟩), .int .i64 n] w fun e w' => e = .returned (.bool false) ∧ ∃ nq, w' = w.drewN nq := by
  rcases h.see with ⟨s, rfl, rfl⟩ | ⟨g0, cap, s, rfl, hc, hm⟩
  · simp only [List.length_nil] at hn ha
    exact YtnnkegpnjedneaaDoor.skip_no p n at_ none 0 0 w (by omega) (by omega) (by omega) (by omega) s.c0 s.c1
  · exact YtnnkegpnjedneaaDoor.skip_no p n at_ _ bs.length cap w hl (by omega) (by omega) (by omega) s.c0 s.c1

theorem Ob.bits_yes {w : World} {base p : Nat} {g : Option Nat} {bs : List Nat} {at_ : Nat} (h : Ob w base 96 p g bs at_) (hl : bs.length ≤ 1000000000) (n : Nat) (hn32 : n ≤ 32) (hn : at_ + n ≤ 8 * bs.length) :
    Calls Tryd.prog 65 #[.pointer (some ⟨p, 0, none⟩), .int .i64 n] w fun e w' => e = .returned (.tuple #[.int .u32 ((pk bs at_ n : Nat) : Int), .bool true]) ∧ Moved w base 96 p g bs (at_ + n) w' := by
  have H := Lib.hid h
  clear h
  go_enter Tryd.func65, Tryd.ntmps65
  go_wp2_with (first
    | (go_at_call 73; refine (H.out.peek hl (by omega) n hn32).mono ?_; rintro e w' ⟨rfl, rfl⟩)
    | (go_at_call 74; refine (H.out.skip_yes hl n hn).mono ?_; rintro e w' ⟨rfl, hm⟩))
  go_ret2
  exact ⟨rfl, hm⟩

theorem Ob.bits_no {w : World} {base p : Nat} {g : Option Nat} {bs : List Nat} {at_ : Nat} (h : Ob w base 96 p g bs at_) (hl : bs.length ≤ 1000000000) (ha : at_ ≤ 8 * bs.length) (n : Int) (hn : n < 0 ∨ 32 < n ∨ 8 * (bs.length : Int) - at_ < n) :
    Calls Tryd.prog 65 #[.pointer (some ⟨p, 0, none⟩), .int .i64 n] w fun e w' => e = .returned (.tuple #[.int .u32 0, .bool false]) ∧ ∃ nq, w' = w.drewN nq := by
  have H := Lib.hid h
  clear h
  by_cases h32 : 32 < n
  · go_enter Tryd.func65, Tryd.ntmps65
    go_wp2
    go_ret2
    exact ⟨rfl, 0, rfl⟩
  · by_cases h0 : n < 0
    · go_enter Tryd.func65, Tryd.ntmps65
      go_wp2_with (first
        | (go_at_call 73; refine (peek_no p n _ (.inl h0)).mono ?_; rintro e w' ⟨rfl, rfl⟩)
        | (go_at_call 74; refine (H.out.skip_no hl ha n (.inl h0)).mono ?_; rintro e w' ⟨rfl, nq, rfl⟩))
      go_ret2
      exact ⟨rfl, _, rfl⟩
    · obtain ⟨m, rfl⟩ := Int.eq_ofNat_of_zero_le (show 0 ≤ n by omega)
      have hbad : 8 * (bs.length : Int) - at_ < m := by omega
      clear hn
      go_enter Tryd.func65, Tryd.ntmps65
      go_wp2_with (first
        | (go_at_call 73; refine (H.out.peek hl ha m (by omega)).mono ?_; rintro e w' ⟨rfl, rfl⟩)
        | (go_at_call 74; refine (H.out.skip_no hl ha m (.inr hbad)).mono ?_; rintro e w' ⟨rfl, nq, rfl⟩))
      go_ret2
      exact ⟨rfl, _, rfl⟩

/-- The next multiple of 8. -/
def up8 (n : Nat) : Nat := (n + 7) / 8 * 8

theorem Ob.ralign {w : World} {base p : Nat} {g : Option Nat} {bs : List Nat} {at_ : Nat} (h : Ob w base 96 p g bs at_) (ha : at_ ≤ 10000000000) :
    Calls Tryd.prog 75 #[.pointer (some ⟨p, 0, none⟩)] w fun e w' => e = .returned (.tuple #[]) ∧ Moved w base 96 p g bs (up8 at_) w' := by
  obtain ⟨sv, h1, _⟩ := h.blk
  obtain ⟨c0, c1, f0, f1⟩ := two_cell h1
  have HM := Lib.hid (Moved.mk' h 0 (up8 at_) (x := ((at_ : Int) + 7) / 8 * 8) (by unfold up8; omega))
  clear h1 h
  go_enter Tryd.func75, Tryd.ntmps75
  go_wp2_with (go_at_call 87; refine (bytesFor_any at_ _ (by omega) (by omega)).mono ?_; rintro e w' ⟨rfl, rfl⟩)
  go_end0
  exact ⟨rfl, HM.out⟩

end Go.Proofs.YtnnkegpnjedneaaDoor


/-
  Contracts of bytes.Clone: a copy of the call's own.
-/
namespace Go.Proofs.YtnnkegpnjedneaaDoor
open Go.RowKit

theorem Tryd.info5 : (Tryd.prog.info? 5).map (fun i => (i.zero, i.size, i.bytes)) = some (some (.int .u8 0), 1, 1) := by kernel_rfl

def u8s (l : List Nat) : List Value := l.map fun x : Nat => Value.int .u8 (x : Int)

theorem u8s_len (l : List Nat) : (u8s l).length = l.length := by simp [u8s]
theorem u8s_one (l : List Nat) : ∀ u ∈ u8s l, u.oneCell' = true := by
  intro u hu
  obtain ⟨_, _, rfl⟩ := List.mem_map.1 hu
  rfl

/-- A slice value whose elements are the bytes xs. -/
def BySl (w : World) (v : Value) (xs : List Nat) : Prop :=
  (v = .slice none 0 0 ∧ xs = []) ∨ ∃ ad c, v = .slice (some ad) xs.length c ∧ xs.length ≤ c ∧ ∀ j u, (u8s xs)[j]? = some u → w.cell? (ad.add j) = some u

/-- A new copy of bytes in a block of its own; nothing else has changed. -/
def Made (w : World) (base : Nat) (xs : List Nat) (e : Ending) (w' : World) : Prop :=
  ∃ a c, e = .returned (.slice a xs.length c) ∧ w'.ownsRow base 5 1 (.slice a xs.length c) xs.length (u8s xs) ∧ (∀ k, (Value.slice a xs.length c).ownBlock = some k → w.heap.size ≤ k) ∧ Touch (fun _ => False) w w'

theorem own_low {w' : World} {base : Nat} {e : TypeId} {size : Nat} {v : Value} {n : Nat} {xs : List Value} (h : w'.ownsRow base e size v n xs) : ∀ k, v.ownBlock = some k → base ≤ k := fun k hk => (h.lt k hk).1

theorem own_shape {w : World} {base : Nat} {e : TypeId} {size : Nat} {v : Value} {n : Nat} {xs : List Value} (h : w.ownsRow base e size v n xs) : ∃ a c, v = .slice a n c := by
  rcases h.2 with ⟨rfl, rfl⟩ | ⟨g, cap, cur, rfl, _⟩
  · exact ⟨_, _, rfl⟩
  · exact ⟨_, _, rfl⟩

theorem own_empty (w : World) : (w.alloc (.cells #[] 5)).ownsRow w.heap.size 5 1 (.slice (some ⟨w.heap.size, 0, none⟩) 0 0) 0 [] :=
  World.ownsRow_made w #[] 0 (Nat.le_refl _) (Nat.zero_le _) rfl

theorem own_base {w : World} {base base' : Nat} {e : TypeId} {size : Nat} {v : Value} {n : Nat} {xs : List Value} (h : w.ownsRow base e size v n xs) (hb : base' ≤ base) : w.ownsRow base' e size v n xs := by
  refine ⟨h.1, ?_⟩
  rcases h.2 with h2 | ⟨g, cap, cur, hv, hg, r⟩
  · exact .inl h2
  · exact .inr ⟨g, cap, cur, hv, Nat.le_trans hb hg, r⟩

set_option maxHeartbeats 400000 in
theorem clone_some (ad : Addr) (c : Nat) (xs : List Nat) (w : World) (hl : xs.length ≤ 1000000000)
    (hc : ∀ j u, (u8s xs)[j]? = some u → w.cell? (ad.add j) = some u) :
    Calls Tryd.prog 42 #[.slice (some ad) xs.length c] w (Made w w.heap.size xs) := by
  obtain ⟨i0, hi, hz0, hz1, hz2⟩ := info_parts Tryd.info5
  have hnil := fun W => Lib.run_eql_slice_nil (P := Tryd.prog) W 22 5 (some ad) xs.length c 0 0 Tryd.underlying22
  have HC := Lib.hid hc
  clear hc
  go_enter Tryd.func42, Tryd.ntmps42
  go_wp2_with (at_builtin; refine wpList_append_own _ rfl (.tmp 5) (.tmp 6) 22 rfl w.heap.size 5 i0 (.int .u8 0) 1 1 Tryd.underlying22 hi hz0 hz1 hz2 rfl (by decide) (.slice (some ⟨w.heap.size, 0, none⟩) 0 0) 0 [] rfl (own_empty w) ad xs.length c (u8s xs) rfl (by simp [u8s_len]) ?c1 (u8s_one xs) (by unfold maxLen; omega) (by omega) (by simp) ?c2)
  case c1 =>
    intro j u hu
    have h := HC.out j u hu
    have hlt := World.block_lt_of_cell? w _ h
    rw [World.cell?_alloc_lt _ _ _ hlt]
    exact h
  case c2 =>
    intro v' w' hown hgrow _
    have hown : w'.ownsRow w.heap.size 5 1 v' xs.length (u8s xs) := by simpa using hown
    obtain ⟨a, c', rfl⟩ := own_shape hown
    have HO := Lib.hid hown
    have HG := Lib.hid hgrow
    clear hown hgrow
    go_wp2
    go_ret
    refine ⟨a, c', rfl, HO.out, fun k hk => (HO.out.lt k hk).1, ((Touch.refl _ w).alloc _).grown HG.out fun k hk => ?_⟩
    cases hk
    exact .inr (Nat.le_refl _)

theorem clone_nil (w : World) :
    Calls Tryd.prog 42 #[.slice none 0 0] w (Made w w.heap.size []) := by
  have hnil := fun W => Lib.run_eql_slice_nil (P := Tryd.prog) W 22 5 none 0 0 0 0 Tryd.underlying22
  go_enter Tryd.func42, Tryd.ntmps42
  go_wp2
  go_ret
  exact ⟨none, 0, rfl, World.ownsRow_nil _ _ _ _, fun k hk => by simp [Value.ownBlock] at hk, Touch.refl _ _⟩

end Go.Proofs.YtnnkegpnjedneaaDoor


/-
  Contracts of NewReader, NewWriter, Out and SameBytes.
-/
namespace Go.Proofs.YtnnkegpnjedneaaDoor
open Go.RowKit

theorem BySl.at {w : World} {v : Value} {xs : List Nat} (h : BySl w v xs) (hp : 0 < xs.length) :
    ∃ b off c, v = .slice (some ⟨b, off, none⟩) xs.length c ∧ xs.length ≤ c ∧ ∀ j, j < xs.length → w.cell? ⟨b, off + j, none⟩ = some (.int .u8 (byt xs j)) := by
  rcases h with ⟨_, rfl⟩ | ⟨ad, c, rfl, hc, h⟩
  · simp at hp
  · have h' : ∀ i, i < (xs.map fun x : Nat => (x : Int)).length → w.cell? (ad.add i) = some (.int .u8 ((xs.map fun x : Nat => (x : Int)).getD i 0)) := by
      intro i hi
      have hi' : i < xs.length := by simpa using hi
      refine h i _ ?_
      simp [u8s, List.getD, hi']
    obtain ⟨b, off, rfl, h2⟩ := ints_at h' (by simpa using hp)
    refine ⟨b, off, c, rfl, hc, fun j hj => ?_⟩
    rw [h2 j (by simpa using hj)]
    simp [byt, List.getD, hj]

theorem BySl.own {w : World} {base : Nat} {v : Value} {xs : List Nat} (h : w.ownsRow base 5 1 v xs.length (u8s xs)) : BySl w v xs := by
  rcases h.2 with ⟨rfl, hn⟩ | ⟨g, cap, cur, rfl, hb, hh, hnc, r⟩
  · exact .inl ⟨rfl, List.eq_nil_of_length_eq_zero hn⟩
  · exact .inr ⟨⟨g, 0, none⟩, cap, rfl, hnc, h.cells (by simp [Value.ownBlock])⟩

theorem BySl.touch {S : Nat → Prop} {w w' : World} {v : Value} {xs : List Nat} (h : BySl w v xs) (ht : Touch S w w') (hs : ∀ k, v.ownBlock = some k → ¬ S k) : BySl w' v xs := by
  rcases h with h | ⟨ad, c, rfl, hc, h⟩
  · exact .inl h
  · refine .inr ⟨ad, c, rfl, hc, fun j u hu => ?_⟩
    have h1 := h j u hu
    have hlt := World.block_lt_of_cell? w _ h1
    have hb : (ad.add j).block = ad.block := by unfold Addr.add; split <;> rfl
    rw [World.cell?_of_block (w := w) (ht.block _ hlt (by rw [hb]; exact hs _ (by simp [Value.ownBlock])))]
    exact h1

theorem BySl.below {B : Nat} {w w' : World} {v : Value} {xs : List Nat} (h : BySl w v xs) (ht : Below B w w') (hs : ∀ k, v.ownBlock = some k → k < B) : BySl w' v xs := by
  rcases h with h | ⟨ad, c, rfl, hc, h⟩
  · exact .inl h
  · refine .inr ⟨ad, c, rfl, hc, fun j u hu => ?_⟩
    have h1 := h j u hu
    have hb : (ad.add j).block = ad.block := by unfold Addr.add; split <;> rfl
    rw [World.cell?_of_block (w := w) (ht.block _ (by rw [hb]; exact hs _ (by simp [Value.ownBlock])))]
    exact h1

theorem clone_any {w : World} {v : Value} {xs : List Nat} (h : BySl w v xs) (hl : xs.length ≤ 1000000000) : Calls Tryd.prog 42 #[v] w (Made w w.heap.size xs) := by
  rcases h with ⟨rfl, rfl⟩ | ⟨ad, c, rfl, hc, h⟩
  · exact clone_nil w
  · exact clone_some ad c xs w hl h

/-- A new object; nothing else has changed. -/
def MadeOb (w : World) (base t : Nat) (bs : List Nat) (n : Nat) (e : Ending) (w' : World) : Prop :=
  ∃ p g, e = .returned (.pointer (some ⟨p, 0, none⟩)) ∧ Ob w' base t p g bs n ∧ Touch (fun _ => False) w w'

theorem Ob.made {w : World} {base t : Nat} {sv : Value} {bs : List Nat} (n : Nat) (ht : t ≠ 5) (hb : Bs bs) (hown : w.ownsRow base 5 1 sv bs.length (u8s bs)) (hbase : base ≤ w.heap.size) {x : Int} (hx : x = (n : Int)) :
    Ob (w.alloc (.cells #[sv, .int .i64 x] t)) base t w.heap.size sv.ownBlock bs n := by
  subst hx
  exact ⟨⟨sv, heap_alloc_new w _, rfl, hown.alloc _⟩, hbase, hb, ht⟩

theorem newReader_any {w : World} {v : Value} {xs : List Nat} (h : BySl w v xs) (hb : Bs xs) (hl : xs.length ≤ 1000000000) : Calls Tryd.prog 31 #[v] w (MadeOb w w.heap.size 96 xs 0) := by
  have H := Lib.hid h
  have HB := Lib.hid hb
  clear h hb
  go_enter Tryd.func31, Tryd.ntmps31
  go_wp2_with (go_at_call 42; refine (clone_any H.out hl).mono ?_; rintro e w' ⟨a, c, rfl, hown, hlow, ht⟩)
  have hsz := ht.size
  go_ret
  exact ⟨w'.heap.size, _, rfl, Ob.made 0 (by decide) HB.out hown hsz rfl, ht.alloc _⟩

theorem newWriter_any (w : World) : Calls Tryd.prog 23 #[] w (MadeOb w w.heap.size 82 [] 0) := by
  go_enter Tryd.func23, Tryd.ntmps23
  go_wp2
  go_ret
  exact ⟨w.heap.size, none, rfl, Ob.made (sv := .slice none 0 0) 0 (by decide) Bs.nil (World.ownsRow_nil _ _ _ _) (Nat.le_refl _) rfl, (Touch.refl _ w).alloc _⟩

theorem out_walk (p : Nat) (sv : Value) (xs : List Nat) (w : World) (h0 : w.cell? ⟨p, 0, none⟩ = some sv) (h : BySl w sv xs) (hl : xs.length ≤ 1000000000) : Calls Tryd.prog 26 #[.pointer (some ⟨p, 0, none⟩)] w (Made w w.heap.size xs) := by
  have H := Lib.hid h
  clear h
  go_enter Tryd.func26, Tryd.ntmps26
  go_wp2_with (go_at_call 42; refine (clone_any H.out hl).mono ?_; rintro e w' ⟨a, c, rfl, hown, hlow, ht⟩)
  go_ret
  exact ⟨a, c, rfl, hown, hlow, ht⟩

theorem Ob.wout {w : World} {base t p : Nat} {g : Option Nat} {bs : List Nat} {n : Nat} (h : Ob w base t p g bs n) (hl : bs.length ≤ 1000000000) : Calls Tryd.prog 26 #[.pointer (some ⟨p, 0, none⟩)] w (Made w w.heap.size bs) := by
  obtain ⟨sv, h1, h2, h3⟩ := h.blk
  exact out_walk p sv bs w (two_cell h1).1 (BySl.own h3) hl

/-! ### SameBytes -/
theorem same_len {v v' : Value} {n m c c' : Nat} {a a' : Option Addr} (w : World) (hv : v = .slice a n c) (hv' : v' = .slice a' m c') (h : n ≠ m) :
    Calls Tryd.prog 13 #[v, v'] w fun e w' => e = .returned (.bool false) ∧ ∃ nq, w' = w.drewN nq := by
  subst hv; subst hv'
  have h1 : ((n : Int) == (m : Int)) = false := by simp; omega
  have h2 : ((n : Int) != (m : Int)) = true := by simp [bne]; omega
  go_enter Tryd.func13, Tryd.ntmps13
  go_wp2
  go_ret
  exact ⟨rfl, 0, rfl⟩

theorem same_nil {v v' : Value} {c c' : Nat} {a a' : Option Addr} (w : World) (hv : v = .slice a 0 c) (hv' : v' = .slice a' 0 c') :
    Calls Tryd.prog 13 #[v, v'] w fun e w' => e = .returned (.bool true) ∧ ∃ nq, w' = w.drewN nq := by
  subst hv; subst hv'
  go_enter Tryd.func13, Tryd.ntmps13
  go_wp2
  refine wp_loop_rounds 1 ?_
  rw [rounds_succ]
  go_wp2
  go_ret
  exact ⟨rfl, 0, rfl⟩

set_option maxHeartbeats 800000 in
theorem same_some (b off c b' off' c' len : Nat) (xs ys : List Nat) (w : World) (hx : xs.length = len) (hy : ys.length = len) (hl : len ≤ 1000000000)
    (hc : ∀ j, j < len → w.cell? ⟨b, off + j, none⟩ = some (.int .u8 (byt xs j))) (hc' : ∀ j, j < len → w.cell? ⟨b', off' + j, none⟩ = some (.int .u8 (byt ys j))) :
    Calls Tryd.prog 13 #[.slice (some ⟨b, off, none⟩) len c, .slice (some ⟨b', off', none⟩) len c'] w fun e w' => e = .returned (.bool (decide (xs = ys))) ∧ ∃ nq, w' = w.drewN nq := by
  have HX := Lib.hid hx
  have HY := Lib.hid hy
  have HC := Lib.hid hc
  have HC' := Lib.hid hc'
  clear hc hc' hx hy
  go_enter Tryd.func13, Tryd.ntmps13
  go_wp2
  go_loopw [5] (fun i wr => ∃ k nq : Nat, k ≤ len ∧ i = .int .i64 k ∧ (∀ j, j < k → byt xs j = byt ys j) ∧ wr = w.drewN nq) (fun i _ => len - (intOf i).toNat)
  case atStart => exact ⟨0, 0, Nat.zero_le _, rfl, fun j hj => absurd hj (by omega), rfl⟩
  case round =>
    obtain ⟨k, nq, hk, rfl, hall, rfl⟩ := hrel
    have HA := Lib.hid hall
    clear hall
    by_cases hlt : k < len
    · have h1 := HC.out k hlt
      have h2 := HC'.out k hlt
      by_cases he : byt xs k = byt ys k
      · have e1 : ((byt xs k : Int) == (byt ys k : Int)) = true := by simp [he]
        have e2 : ((byt xs k : Int) != (byt ys k : Int)) = false := by simp [he]
        go_wp2
        go_quiet (fail)
        go_wp2
        go_roundw
        case rel => exact ⟨k + 1, _, by omega, by go_num, fun j hj => by
            by_cases hjk : j = k
            · subst hjk; exact he
            · exact HA.out j (by omega), rfl⟩
        case measure => simp [intOf]; omega
      · have e1 : ((byt xs k : Int) == (byt ys k : Int)) = false := by simp; omega
        have e2 : ((byt xs k : Int) != (byt ys k : Int)) = true := by simp [bne]; omega
        have HE := Lib.hid he
        clear he
        go_wp2
        go_quiet (fail)
        go_wp2
        go_ret
        refine ⟨?_, _, World.drewN_drewN _ _ _⟩
        have : ¬ xs = ys := fun e => HE.out (by rw [e])
        simp [this]
    · have hk' : k = len := by omega
      have hxy : xs = ys := by
        apply List.ext_getElem (by rw [HX.out, HY.out])
        intro j h1 h2
        have := HA.out j (by have := HX.out; omega)
        simpa [byt, List.getD, h1, h2] using this
      have HXY := Lib.hid hxy
      clear hxy hk'
      go_wp2
      go_ret
      exact ⟨by simp [HXY.out], _, rfl⟩

theorem same_any {w : World} {v v' : Value} {xs ys : List Nat} (h : BySl w v xs) (h' : BySl w v' ys) (hl : xs.length ≤ 1000000000) :
    Calls Tryd.prog 13 #[v, v'] w fun e w' => e = .returned (.bool (decide (xs = ys))) ∧ ∃ nq, w' = w.drewN nq := by
  have shape : ∀ {v : Value} {xs : List Nat}, BySl w v xs → ∃ a c, v = .slice a xs.length c := by
    intro v xs h
    rcases h with ⟨rfl, rfl⟩ | ⟨ad, c, rfl, _⟩
    · exact ⟨_, _, rfl⟩
    · exact ⟨_, _, rfl⟩
  obtain ⟨a, c, e⟩ := shape h
  obtain ⟨a', c', e'⟩ := shape h'
  by_cases hlen : xs.length = ys.length
  · by_cases h0 : xs.length = 0
    · have hx := List.eq_nil_of_length_eq_zero h0
      have hy := List.eq_nil_of_length_eq_zero (hlen ▸ h0)
      subst hx; subst hy
      simpa using same_nil w e e'
    · obtain ⟨b, off, c, rfl, _, hc⟩ := h.at (by omega)
      obtain ⟨b', off', c', rfl, _, hc'⟩ := h'.at (by omega)
      rw [← hlen]
      exact same_some b off c b' off' c' xs.length xs ys w rfl hlen.symm hl hc (fun j hj => hc' j (by omega))
  · have : ¬ xs = ys := fun e => hlen (by rw [e])
    simpa [this] using same_len w e e' hlen

end Go.Proofs.YtnnkegpnjedneaaDoor

/-
  Contracts of a reader's Bytes.
-/
namespace Go.Proofs.YtnnkegpnjedneaaDoor
open Go.RowKit

/-- What Bytes answers: a new copy; the place has gone on. -/
def GotBytes (w : World) (base p : Nat) (g : Option Nat) (bs : List Nat) (m : Nat) (xs : List Nat) (e : Ending) (w' : World) : Prop :=
  ∃ a c, e = .returned (.tuple #[.slice a xs.length c, .bool true]) ∧ w'.ownsRow w.heap.size 5 1 (.slice a xs.length c) xs.length (u8s xs) ∧ (∀ k, (Value.slice a xs.length c).ownBlock = some k → w.heap.size ≤ k) ∧ Ob w' base 96 p g bs m ∧ Touch (fun k => k = p) w w'

theorem cut_own {w : World} {base g cap : Nat} {bs : List Nat} (h : w.ownsRow base 5 1 (.slice (some ⟨g, 0, none⟩) bs.length cap) bs.length (u8s bs)) (f n : Nat) (hf : f + n ≤ bs.length) (c : Nat) (hc : n ≤ c) :
    BySl w (.slice (some ⟨g, f, none⟩) n c) ((bs.drop f).take n) := by
  have hl : ((bs.drop f).take n).length = n := by rw [List.length_take, List.length_drop]; omega
  refine .inr ⟨⟨g, f, none⟩, c, by rw [hl], by omega, fun j u hu => ?_⟩
  have hj : j < n := by
    have := (List.getElem?_eq_some_iff.1 hu).1
    rw [u8s_len, hl] at this; exact this
  rw [Addr.add_lit, row_cell h (f + j) (by omega)]
  rw [← hu]
  simp [u8s, byt, List.getD, hj, show f + j < bs.length by omega]

theorem bytesFor_nat (n : Int) (m : Nat) (w : World) (h0 : 0 ≤ n) (h1 : n ≤ 100000000000) (hm : (n + 7) / 8 = (m : Int)) :
    Calls Tryd.prog 87 #[.int .i64 n] w fun e w' => e = .returned (.int .i64 m) ∧ w = w' := by
  have h := bytesFor_any n w h0 h1
  rw [hm] at h
  exact h

set_option maxHeartbeats 400000 in
theorem bytes_yes {w : World} {base p g0 cap : Nat} {bs : List Nat} {at_ : Nat} (h : Ob w base 96 p (some g0) bs at_) (hl : bs.length ≤ 1000000000) (ha : at_ ≤ 8 * bs.length)
    (s : Seen w base p (some g0) bs at_ (.slice (some ⟨g0, 0, none⟩) bs.length cap)) (hc : bs.length ≤ cap) (n first : Nat) (hfi : ((at_ : Int) + 7) / 8 = (first : Int)) (hn : first + n ≤ bs.length) :
    Calls Tryd.prog 76 #[.pointer (some ⟨p, 0, none⟩), .int .i64 n] w (GotBytes w base p (some g0) bs ((first + n) * 8) ((bs.drop first).take n)) := by
  have hgp := h.lt.2 g0 rfl
  obtain ⟨c0, c1, f0, f1, own, hg⟩ := s
  obtain ⟨hO, hT⟩ := Moved.mk' h 0 ((first + n) * 8) (x := ((first : Int) + n) * 8) (by omega)
  rw [World.drewN_zero] at hO hT
  have hlx : ((bs.drop first).take n).length = n := by rw [List.length_take, List.length_drop]; omega
  have hcut : first < cap → BySl (w.setCell ⟨p, 1, none⟩ (.int .i64 (((first : Int) + n) * 8))) (.slice (some ⟨g0, first, none⟩) n (cap - first)) ((bs.drop first).take n) := fun hlt =>
    (cut_own own first n hn (cap - first) (by omega)).touch hT (fun k hk => by simp [Value.ownBlock] at hk; omega)
  have hcut0 : n = 0 → BySl (w.setCell ⟨p, 1, none⟩ (.int .i64 (((first : Int) + n) * 8))) (.slice (some ⟨g0, 0, none⟩) n 0) ((bs.drop first).take n) := fun h0 => by
    subst h0
    exact .inr ⟨⟨g0, 0, none⟩, 0, by simp, by simp, fun j u hu => by simp [u8s] at hu⟩
  have HFE := Lib.hid hfi
  have HO := Lib.hid hO
  have HT := Lib.hid hT
  have HLX := Lib.hid hlx
  have HC := Lib.hid hcut
  have HC0 := Lib.hid hcut0
  clear hfi hO hT own h hlx hcut hcut0 hg hgp
  by_cases hcap : cap = first
  · have hn0 : n = 0 := by omega
    have HN0 := Lib.hid hn0
    clear hn0
    have hnn : ((n : Int)) ≤ 0 := by have := HN0.out; omega
    go_enter Tryd.func76, Tryd.ntmps76
    go_wp2_with (first
      | (go_at_call 87; refine (bytesFor_nat at_ first _ (by omega) (by omega) HFE.out).mono ?_; rintro e w' ⟨rfl, rfl⟩)
      | (go_at_call 42; go_must (refine (clone_any (HC0.out HN0.out) (by have := HLX.out; omega)).mono ?_); rintro e w' ⟨a, c, rfl, hown, hlow, ht⟩))
    go_ret2
    refine ⟨a, c, by simp, own_base hown (by simp), fun k hk => by have := hlow k hk; simpa using this, HO.out.touch ht (fun _ _ h => h), HT.out.trans (ht.mono fun _ h => h.elim)⟩
  · have hlt : first < cap := by omega
    go_enter Tryd.func76, Tryd.ntmps76
    go_wp2_with (first
      | (go_at_call 87; refine (bytesFor_nat at_ first _ (by omega) (by omega) HFE.out).mono ?_; rintro e w' ⟨rfl, rfl⟩)
      | (go_at_call 42; go_must (refine (clone_any (HC.out hlt) (by have := HLX.out; omega)).mono ?_); rintro e w' ⟨a, c, rfl, hown, hlow, ht⟩))
    go_ret2
    refine ⟨a, c, by simp, own_base hown (by simp), fun k hk => by have := hlow k hk; simpa using this, HO.out.touch ht (fun _ _ h => h), HT.out.trans (ht.mono fun _ h => h.elim)⟩

theorem bytes_nil {w : World} {base p : Nat} (h : Ob w base 96 p none [] 0) (s : Seen w base p none [] 0 (.slice none 0 0)) :
    Calls Tryd.prog 76 #[.pointer (some ⟨p, 0, none⟩), .int .i64 0] w (GotBytes w base p none [] 0 []) := by
  obtain ⟨c0, c1, f0, f1, own, hg⟩ := s
  obtain ⟨hO, hT⟩ := Moved.mk' h 0 0 (x := 0) (by omega)
  rw [World.drewN_zero] at hO hT
  have HO := Lib.hid hO
  have HT := Lib.hid hT
  clear hO hT own h hg
  go_enter Tryd.func76, Tryd.ntmps76
  go_wp2_with (first
    | (go_at_call 87; refine (bytesFor_nat 0 0 _ (by omega) (by omega) (by omega)).mono ?_; rintro e w' ⟨rfl, rfl⟩)
    | (go_at_call 42; go_must (refine (clone_nil _).mono ?_); rintro e w' ⟨a, c, rfl, hown, hlow, ht⟩))
  go_ret2
  refine ⟨a, c, rfl, own_base hown (by simp), fun k hk => by have := hlow k hk; simpa using this, HO.out.touch ht (fun _ _ h => h), HT.out.trans (ht.mono fun _ h => h.elim)⟩

theorem Ob.bytes_yes {w : World} {base p : Nat} {g : Option Nat} {bs : List Nat} {at_ : Nat} (h : Ob w base 96 p g bs at_) (hl : bs.length ≤ 1000000000) (ha : at_ ≤ 8 * bs.length) (n : Nat) (hn : (at_ + 7) / 8 + n ≤ bs.length) :
    Calls Tryd.prog 76 #[.pointer (some ⟨p, 0, none⟩), .int .i64 n] w (GotBytes w base p g bs (((at_ + 7) / 8 + n) * 8) ((bs.drop ((at_ + 7) / 8)).take n)) := by
  rcases h.see with ⟨s, rfl, rfl⟩ | ⟨g0, cap, s, rfl, hc, hm⟩
  · have h0 : at_ = 0 := by simpa using ha
    have h1 : n = 0 := by simp at hn; omega
    subst h0; subst h1
    exact bytes_nil h s
  · exact YtnnkegpnjedneaaDoor.bytes_yes h hl ha s hc n _ (by omega) hn

theorem bytes_no {w : World} {p len cap at_ : Nat} {ao : Option Addr} (c0 : w.cell? ⟨p, 0, none⟩ = some (.slice ao len cap)) (c1 : w.cell? ⟨p, 1, none⟩ = some (.int .i64 at_)) (hl : len ≤ 1000000000) (ha : at_ ≤ 8 * len) (n : Int) (first : Nat) (hfi : ((at_ : Int) + 7) / 8 = (first : Int)) (hn : n < 0 ∨ (len : Int) - first < n) :
    Calls Tryd.prog 76 #[.pointer (some ⟨p, 0, none⟩), .int .i64 n] w fun e w' => e = .returned (.tuple #[.slice none 0 0, .bool false]) ∧ w = w' := by
  have hf2 : first ≤ len := by omega
  have HFE := Lib.hid hfi
  clear hfi
  by_cases h0 : n < 0
  · clear hn
    go_enter Tryd.func76, Tryd.ntmps76
    go_wp2_with (go_at_call 87; refine (bytesFor_nat at_ first _ (by omega) (by omega) HFE.out).mono ?_; rintro e w' ⟨rfl, rfl⟩)
    go_ret2
    exact ⟨rfl, rfl⟩
  · have h0' : 0 ≤ n := by omega
    have h1 : (len : Int) - first < n := by omega
    clear hn h0
    go_enter Tryd.func76, Tryd.ntmps76
    go_wp2_with (go_at_call 87; refine (bytesFor_nat at_ first _ (by omega) (by omega) HFE.out).mono ?_; rintro e w' ⟨rfl, rfl⟩)
    go_ret2
    exact ⟨rfl, rfl⟩

theorem Ob.bytes_no {w : World} {base p : Nat} {g : Option Nat} {bs : List Nat} {at_ : Nat} (h : Ob w base 96 p g bs at_) (hl : bs.length ≤ 1000000000) (ha : at_ ≤ 8 * bs.length) (n : Int) (hn : n < 0 ∨ (bs.length : Int) - ((at_ : Int) + 7) / 8 < n) :
    Calls Tryd.prog 76 #[.pointer (some ⟨p, 0, none⟩), .int .i64 n] w fun e w' => e = .returned (.tuple #[.slice none 0 0, .bool false]) ∧ w = w' := by
  rcases h.see with ⟨s, rfl, rfl⟩ | ⟨g0, cap, s, rfl, hc, hm⟩
  · have h0 : at_ = 0 := by simpa using ha
    subst h0
    exact YtnnkegpnjedneaaDoor.bytes_no s.c0 s.c1 (by omega) (by omega) n 0 (by omega) (by simp only [List.length_nil] at hn; omega)
  · exact YtnnkegpnjedneaaDoor.bytes_no s.c0 s.c1 hl ha n ((at_ + 7) / 8) (by omega) (by omega)

end Go.Proofs.YtnnkegpnjedneaaDoor


/-
  The law of append onto bytes of the call's own; Align of a writer.
-/
namespace Go.Proofs.YtnnkegpnjedneaaDoor
open Go.RowKit

/-- Behind an append: the bytes are owned; only the old row may have been written; the new row is the old one or a new one. -/
structure Apd (w : World) (base : Nat) (v : Value) (bs : List Nat) (v' : Value) (w' : World) : Prop where
  own : w'.ownsRow base 5 1 v' bs.length (u8s bs)
  touch : Touch (fun k => v.ownBlock = some k) w w'
  row : ∀ k, v'.ownBlock = some k → v.ownBlock = some k ∨ w.heap.size ≤ k

theorem u8s_app (a b : List Nat) : u8s a ++ u8s b = u8s (a ++ b) := by simp [u8s]

theorem run_append_x (w : World) {base : Nat} {v sv : Value} {xs ys : List Nat} (ty : TypeId) (hown : w.ownsRow base 5 1 v xs.length (u8s xs)) (hs : BySl w sv ys) (hbase : base ≤ w.heap.size) (hl : xs.length + ys.length ≤ 2000000000) :
    ∃ v' w', (Builtin.append_ #[22, 22] ty #[v, sv]).run Tryd.prog w = .ok v' w' ∧ Apd w base v (xs ++ ys) v' w' := by
  obtain ⟨i0, hi, hz0, hz1, hz2⟩ := info_parts Tryd.info5
  have hlen : (xs ++ ys).length = xs.length + ys.length := List.length_append
  rcases hs with ⟨rfl, rfl⟩ | ⟨ad, c, rfl, hc, hcell⟩
  · refine ⟨v, w, run_append_owned_none w base 22 ty 5 i0 1 Tryd.underlying22 hi v xs.length (u8s xs) hown, ?_, Touch.refl _ _, fun k hk => .inl hk⟩
    simpa using hown
  · rcases hown.2 with ⟨rfl, hn0⟩ | ⟨g, cap, cur, rfl, hbg, hh, hnc, hcm, hcs, htake⟩
    · have hx : xs = [] := List.eq_nil_of_length_eq_zero hn0
      subst hx
      obtain ⟨v', w', hr, ho, hg, _⟩ := run_append_own (P := Tryd.prog) w w.heap.size 22 ty 5 i0 (.int .u8 0) 1 1 Tryd.underlying22 hi hz0 hz1 hz2 rfl (by decide) (.slice none 0 0) 0 [] (World.ownsRow_nil _ _ _ _) ad ys.length c (u8s ys) (by simp [u8s_len]) hcell (u8s_one ys) (by unfold maxLen; simp only [List.length_nil] at hl; omega) (by simp only [List.length_nil] at hl; omega) (Nat.le_refl _)
      have ho' : w'.ownsRow w.heap.size 5 1 v' ([] ++ ys).length (u8s ([] ++ ys)) := by simpa using ho
      exact ⟨v', w', hr, own_base ho' hbase, (Touch.refl _ w).grown hg fun k hk => by simp [Value.ownBlock] at hk, fun k hk => .inr (ho'.lt k hk).1⟩
    · by_cases hroom : xs.length + ys.length ≤ cap
      · obtain ⟨w', hr, ho, hg⟩ := run_append_fits (P := Tryd.prog) w base 22 ty 5 i0 1 Tryd.underlying22 hi hz1 g xs.length cap (u8s xs) hown ad ys.length c (u8s ys) (by simp [u8s_len]) hcell (u8s_one ys) hroom
        rw [u8s_app, ← hlen] at ho
        refine ⟨_, w', hr, hlen ▸ ho, (Touch.refl _ w).grown hg fun k hk => .inl (by cases hk; simp [Value.ownBlock]), fun k hk => .inl (by simpa [Value.ownBlock] using hk)⟩
      · obtain ⟨v', w', hr, ho, hg⟩ := run_append_arg_grows (P := Tryd.prog) w 22 ty 5 i0 (.int .u8 0) 1 1 Tryd.underlying22 hi hz0 hz1 hz2 rfl (by decide) ⟨g, 0, none⟩ xs.length cap (u8s xs) (by simp [u8s_len]) (hown.cells (by simp [Value.ownBlock])) ad ys.length c (u8s ys) (by simp [u8s_len]) hcell (by omega) (by unfold maxLen; omega) (by omega)
        rw [u8s_app, ← hlen] at ho
        exact ⟨v', w', hr, own_base ho hbase, (Touch.refl _ w).grown hg (fun k hk => by cases hk), fun k hk => .inr (ho.lt k hk).1⟩

theorem wpList_append_x {w : World} {ops : Array Oper} {rest : List Oper} {o : Oper} {a : Act} {Q : Exit → Act → World → Prop} (hgd : o.guard = none) (s x : Operand)
    (ho : o.op = .call { callee := .builtin .append, args := #[s, x], argTypes := #[22, 22] })
    (base : Nat) (v sv : Value) (xs ys : List Nat) (hs : a.eval s = v) (hx : a.eval x = sv) (hown : w.ownsRow base 5 1 v xs.length (u8s xs)) (hsrc : BySl w sv ys) (hbase : base ≤ w.heap.size) (hl : xs.length + ys.length ≤ 2000000000)
    (h : ∀ ao c w', Apd w base v (xs ++ ys) (.slice ao (xs ++ ys).length c) w' → wpList Tryd.prog ops Q rest (a.put o.dst (.slice ao (xs ++ ys).length c)) w') : wpList Tryd.prog ops Q (o :: rest) a w := by
  refine wpList_plain hgd fun K hK => ?_
  obtain ⟨v', w', hrun, hA⟩ := run_append_x w o.type hown hsrc hbase hl
  obtain ⟨ao, c, rfl⟩ := own_shape hA.own
  unfold Oper.wp
  simp [execOp, ho, resolve, invoke, builtin, hs, hx, hrun, Result.andThen]
  exact hK _ _ (by simpa using h ao c w' hA)

theorem step_append_x {ops : Array Oper} {o : Oper} {a : Act} {w : World} {K : Act → World → Prop} {Q : Exit → Act → World → Prop} {E : Prop}
    (hg : o.guard = none) (s x : Operand) (hop : o.op = Op.call { callee := Callee.builtin Builtin.append, args := #[s, x], argTypes := #[22, 22] })
    (base : Nat) (v sv : Value) (xs ys : List Nat) (hs : a.eval s = v) (hx : a.eval x = sv) (hown : w.ownsRow base 5 1 v xs.length (u8s xs)) (hsrc : BySl w sv ys) (hbase : base ≤ w.heap.size) (hl : xs.length + ys.length ≤ 2000000000)
    (hK : ∀ ao c w', Apd w base v (xs ++ ys) (.slice ao (xs ++ ys).length c) w' → K (a.put o.dst (.slice ao (xs ++ ys).length c)) w') :
    if Region.wanted o (yielded ops a.tmps) = true then Oper.wp Tryd.prog o a w K Q else E := by
  have hw : Region.wanted o (yielded ops a.tmps) = true := by simp [Region.wanted, hg]
  rw [if_pos hw]
  obtain ⟨v', w', hrun, hA⟩ := run_append_x w o.type hown hsrc hbase hl
  obtain ⟨ao, c, rfl⟩ := own_shape hA.own
  unfold Oper.wp
  simp [execOp, hop, resolve, invoke, builtin, hs, hx, hrun, Result.andThen]
  have h := hK ao c w' hA
  simp only [List.length_append] at h
  exact h

/-- An object that has got other bytes: its old blocks alone, and new ones, have changed. -/
def Grew (w : World) (base t p : Nat) (g : Option Nat) (bs : List Nat) (n : Nat) (w' : World) : Prop :=
  ∃ g', Ob w' base t p g' bs n ∧ Touch (Foot p g) w w' ∧ ∀ k, g' = some k → g = some k ∨ w.heap.size ≤ k

theorem Moved.grew {w : World} {base t p : Nat} {g : Option Nat} {bs : List Nat} {n : Nat} {w' : World} (h : Moved w base t p g bs n w') : Grew w base t p g bs n w' :=
  ⟨g, h.1, h.2.mono fun _ h => .inl h, fun _ h => .inl h⟩

theorem Grew.on {w : World} {base t p : Nat} {g g1 : Option Nat} {bs bs' : List Nat} {n n' : Nat} {w1 w2 : World} (_ho : Ob w1 base t p g1 bs n) (ht : Touch (Foot p g) w w1) (hr : ∀ k, g1 = some k → g = some k ∨ w.heap.size ≤ k) (h2 : Grew w1 base t p g1 bs' n' w2) : Grew w base t p g bs' n' w2 := by
  obtain ⟨g2, ho2, ht2, hr2⟩ := h2
  refine ⟨g2, ho2, ht.trans' ht2 ?_, ?_⟩
  · intro i hi hlt
    rcases hi with rfl | hi
    · exact .inl rfl
    · rcases hr i hi with h | h
      · exact .inr h
      · omega
  · intro k hk
    rcases hr2 k hk with h | h
    · exact hr k h
    · exact .inr (Nat.le_trans ht.size h)

/-- The two cells written: a new row, a number. -/
theorem grew_of {w w1 : World} {base t p : Nat} {sv v' : Value} {bs bs' : List Nat} {n : Nat} (h : Ob w base t p sv.ownBlock bs n) (hA : Apd w base sv bs' v' w1) (hb : Bs bs') (hsv : w.heap[p]? = some (.cells #[sv, .int .i64 n] t (0, 0))) :
    w1.heap[p]? = some (.cells #[sv, .int .i64 n] t (0, 0)) ∧ Grew w base t p sv.ownBlock bs' n (w1.setCell ⟨p, 0, none⟩ v') := by
  obtain ⟨hp, hg⟩ := h.lt
  have h1 : w1.heap[p]? = some (.cells #[sv, .int .i64 n] t (0, 0)) := (hA.touch.block p hp (fun e => by have := hg p e; omega)).trans hsv
  refine ⟨h1, v'.ownBlock, ⟨⟨v', two_set0 h1, rfl, ownsRow_setCell_other hA.own (fun e => ?_) _⟩, h.hp, hb, h.ht⟩, ?_, hA.row⟩
  · rcases hA.row p e with e | e
    · have := hg p e; omega
    · omega
  · exact (hA.touch.mono fun k hk => .inr hk).setCell _ _ (.inl (.inl rfl))

end Go.Proofs.YtnnkegpnjedneaaDoor


/-
  The contract of a writer's Put.
-/
namespace Go.Proofs.YtnnkegpnjedneaaDoor
open Go.RowKit

theorem put_no (p : Nat) (v n : Int) (w : World) (hn : n < 0 ∨ 32 < n) :
    Calls Tryd.prog 24 #[.pointer (some ⟨p, 0, none⟩), .int .u32 v, .int .i64 n] w fun e w' => e = .returned (.tuple #[]) ∧ w = w' := by
  go_enter Tryd.func24, Tryd.ntmps24
  go_wp2_with (go_at_call 39; refine (isWidth_no n _ hn).mono ?_; rintro e w' ⟨rfl, rfl⟩)
  exact bodyPost_ret (results_none rfl _ _ _) rfl ⟨rfl, rfl⟩

/-- The bytes of a writer hold its bits, and noughts behind. -/
structure WI (bs : List Nat) (n : Nat) : Prop where
  lo : n ≤ 8 * bs.length
  hi : 8 * bs.length < n + 8
  lt : num bs < 2 ^ n

theorem u64_of_u32 (v : Nat) (hv : v < 4294967296) : IntKind.u64.wrap (v : Int) = (v : Int) := by
  rw [IntKind.wrap_u64]; omega

/-- In the midst of a Put: d bits of the new ones, or more, are there. -/
def PutRel (w : World) (base p : Nat) (g : Option Nat) (N n x d : Nat) (wr : World) : Prop :=
  ∃ bs g', Ob wr base 82 p g' bs n ∧ Touch (Foot p g) w wr ∧ (∀ k, g' = some k → g = some k ∨ w.heap.size ≤ k) ∧ 8 * bs.length = n + d ∧ num bs = N + x % 2 ^ d * 2 ^ n

theorem lowest_eq (v : Int) (V n X : Nat) (w : World) (hv : v = (V : Int)) (hn : n ≤ 32) (hV : V < 18446744073709551616) (hX : V % 2 ^ n = X) :
    Calls Tryd.prog 40 #[.int .u64 v, .int .i64 n] w fun e w' => e = .returned (.int .u64 X) ∧ w = w' := by
  rw [← hX]; exact lowest_int v V n w hv hn hV

theorem PutRel.start {w : World} {base p : Nat} {g : Option Nat} {bs : List Nat} {n x : Nat} (h : Ob w base 82 p g bs n) (hl : 8 * bs.length = n) (nq : Nat) : PutRel w base p g (num bs) n x 0 (w.drewN nq) :=
  ⟨bs, g, h.drewN nq, (Touch.refl _ w).drewN nq, fun k hk => .inl hk, by omega, by simp [Nat.mod_one]⟩

/-- Behind the store into the last byte. -/
theorem PutRel.first {w : World} {base p g0 c : Nat} {bs : List Nat} {n x : Nat} (h : Ob w base 82 p (some g0) bs n) (own : w.ownsRow base 5 1 (.slice (some ⟨g0, 0, none⟩) bs.length c) bs.length (u8s bs)) (h1 : w.heap[p]? = some (.cells #[.slice (some ⟨g0, 0, none⟩) bs.length c, .int .i64 n] 82 (0, 0)))
    (hw : WI bs n) (hf : n < 8 * bs.length) (hx : x < 4294967296) (nq : Nat) {u : Int} (hu : u = bits BinOp.or IntKind.u8 (byt bs (bs.length - 1)) (IntKind.u64.wrap ((x : Int) * 2 ^ (8 - (bs.length * 8 - n))) % 256)) :
    PutRel w base p (some g0) (num bs) n x (bs.length * 8 - n) ((w.drewN nq).setCell ⟨g0, bs.length - 1, none⟩ (.int .u8 u)) := by
  have hgp := h.lt.2 g0 rfl
  have hhi := hw.hi
  have hf2 := put_first (bs := bs) (x := x) (f := bs.length * 8 - n) h.hb (by omega) (by omega) (by omega) rfl hw.lt
  have hle : 8 - (bs.length * 8 - n) ≤ 8 := by omega
  have hp2 : 2 ^ (8 - (bs.length * 8 - n)) ≤ 2 ^ 8 := Nat.pow_le_pow_right (by omega) hle
  have hmul : x * 2 ^ (8 - (bs.length * 8 - n)) ≤ 4294967296 * 2 ^ 8 := Nat.mul_le_mul (by omega) hp2
  have hue : u = ((bs.getD (bs.length - 1) 0 ||| (x * 2 ^ (8 - (bs.length * 8 - n)) % 256) : Nat) : Int) := by
    rw [hu]
    have e1 : IntKind.u64.wrap ((x : Int) * 2 ^ (8 - (bs.length * 8 - n))) % 256 = ((x * 2 ^ (8 - (bs.length * 8 - n)) % 256 : Nat) : Int) := by
      rw [IntKind.wrap_u64, show (x : Int) * 2 ^ (8 - (bs.length * 8 - n)) = ((x * 2 ^ (8 - (bs.length * 8 - n)) : Nat) : Int) from by simp]
      omega
    rw [e1]
    exact u8_or_nat _ _ (h.hb.at _) (Nat.mod_lt _ (by omega))
  have hst := (own.stored (bs.length - 1) (.int .u8 u)).1
  have hset : (u8s bs).set (bs.length - 1) (.int .u8 u) = u8s (bs.set (bs.length - 1) (bs.getD (bs.length - 1) 0 ||| (x * 2 ^ (8 - (bs.length * 8 - n)) % 256))) := by
    rw [hue]; unfold u8s; rw [List.map_set]
  rw [hset] at hst
  refine ⟨bs.set (bs.length - 1) (bs.getD (bs.length - 1) 0 ||| (x * 2 ^ (8 - (bs.length * 8 - n)) % 256)), some g0, ⟨⟨.slice (some ⟨g0, 0, none⟩) bs.length c, ?_, ?_, ?_⟩, h.hp, h.hb.set _ hf2.1, h.ht⟩, ((Touch.refl _ w).drewN nq).setCell _ _ (.inl (.inr rfl)), fun k hk => .inl hk, by rw [List.length_set]; omega, hf2.2⟩
  · exact (Below.heap_setCell _ _ _ _ (by simp only []; omega)).trans h1
  · rfl
  · rw [List.length_set]; exact hst

theorem PutRel.next {w wr w1 : World} {base p : Nat} {g g1 : Option Nat} {bs : List Nat} {N n x d : Nat} {sv v' : Value} (ht : Touch (Foot p g) w wr) (hr : ∀ k, g1 = some k → g = some k ∨ w.heap.size ≤ k) (hl : 8 * bs.length = n + d) (hN : num bs = N + x % 2 ^ d * 2 ^ n)
    {W : World} (ho : Ob W base 82 p sv.ownBlock bs n) (hsv : W.heap[p]? = some (.cells #[sv, .int .i64 n] 82 (0, 0))) (hW : Touch (fun _ => False) wr W) (hg : sv.ownBlock = g1) (hA : Apd W base sv (bs ++ [x / 2 ^ d % 256]) v' w1) :
    PutRel w base p g N n x (d + 8) (w1.setCell ⟨p, 0, none⟩ v') := by
  subst hg
  obtain ⟨hs1, g2, ho2, ht2, hr2⟩ := grew_of ho hA (ho.hb.app (Bs.one (Nat.mod_lt _ (by omega)))) hsv
  refine ⟨_, g2, ho2, (ht.trans (hW.mono fun _ h => h.elim)).trans' ht2 ?_, ?_, by rw [List.length_append, List.length_singleton]; omega, put_round hl hN⟩
  · intro i hi hlt
    rcases hi with rfl | hi
    · exact .inl rfl
    · rcases hr i hi with h | h
      · exact .inr h
      · omega
  · intro k hk
    rcases hr2 k hk with h | h
    · exact hr k h
    · exact .inr (Nat.le_trans ht.size (Nat.le_trans hW.size h))

/-- A writer has got a number of bits, which tell a number; only its own blocks have changed. -/
def Wrote (w : World) (base p : Nat) (g : Option Nat) (N n : Nat) (w' : World) : Prop :=
  ∃ bs, Grew w base 82 p g bs n w' ∧ WI bs n ∧ num bs = N

theorem PutRel.done {w wr : World} {base p : Nat} {g : Option Nat} {N n x d k : Nat} (h : PutRel w base p g N n x d wr) (hN : N < 2 ^ n) (hx : x < 2 ^ k) (h1 : k ≤ d) (h2 : d < k + 8) {u : Int} (hu : u = ((n + k : Nat) : Int)) :
    Wrote w base p g (N + x * 2 ^ n) (n + k) (wr.setCell ⟨p, 1, none⟩ (.int .i64 u)) := by
  subst hu
  obtain ⟨bs, g', ho, ht, hr, hl, hn⟩ := h
  have hxd : x % 2 ^ d = x := Nat.mod_eq_of_lt (Nat.lt_of_lt_of_le hx (Nat.pow_le_pow_right (by omega) h1))
  rw [hxd] at hn
  exact ⟨bs, ⟨g', ho.set1 _, ht.setCell _ _ (.inl (.inl rfl)), hr⟩, ⟨by omega, by omega, by rw [hn]; exact put_lt hN hx⟩, hn⟩

theorem by_one (W : World) (y : Nat) {u : Int} (hu : u = (y : Int)) : BySl (W.alloc (.cells #[.int .u8 u] 5)) (.slice (some ⟨W.heap.size, 0, none⟩) 1 1) [y] := by
  subst hu
  refine .inr ⟨⟨W.heap.size, 0, none⟩, 1, rfl, by simp, fun j u hj => ?_⟩
  match j, hj with
  | 0, hj => simp [u8s] at hj; subst hj; simp [Addr.add]

theorem wrap8 (X d : Nat) : IntKind.u8.wrap ((X : Int) / 2 ^ d) = ((X / 2 ^ d % 256 : Nat) : Int) := by
  rw [IntKind.wrap_u8']; simp

/-- All that a round of Put has behind its append. -/
theorem put_behind {w wr w1 : World} {base p : Nat} {g g1 : Option Nat} {bs : List Nat} {N n x d : Nat} {sv v' : Value} (ho : Ob wr base 82 p g1 bs n) (hsv : wr.heap[p]? = some (.cells #[sv, .int .i64 n] 82 (0, 0))) (hg : sv.ownBlock = g1)
    (ht : Touch (Foot p g) w wr) (hr : ∀ k, g1 = some k → g = some k ∨ w.heap.size ≤ k) (hl : 8 * bs.length = n + d) (hN : num bs = N + x % 2 ^ d * 2 ^ n) {o : Obj}
    (hA : Apd (wr.alloc o).drew base sv (bs ++ [x / 2 ^ d % 256]) v' w1) :
    w1.heap[p]? = some (.cells #[sv, .int .i64 n] 82 (0, 0)) ∧ PutRel w base p g N n x (d + 8) (w1.setCell ⟨p, 0, none⟩ v') := by
  subst hg
  have hW : Touch (fun _ => False) wr (wr.alloc o).drew := ((Touch.refl _ wr).alloc o).drew
  have hoW := ho.touch hW (fun _ _ h => h)
  have hsW : (wr.alloc o).drew.heap[p]? = some (.cells #[sv, .int .i64 n] 82 (0, 0)) := (hW.block p ho.lt.1 (fun h => h)).trans hsv
  exact ⟨(grew_of hoW hA (ho.hb.app (Bs.one (Nat.mod_lt _ (by omega)))) hsW).1, PutRel.next ht hr hl hN hoW hsW hW rfl hA⟩

set_option maxHeartbeats 800000 in
theorem put_yes {w : World} {base p : Nat} {g : Option Nat} {bs : List Nat} {n : Nat} (h : Ob w base 82 p g bs n) (hw : WI bs n) (hl : bs.length ≤ 999999000) (v k X : Nat) (hv : v < 4294967296) (hk : k ≤ 32) (hX : v % 2 ^ k = X) :
    Calls Tryd.prog 24 #[.pointer (some ⟨p, 0, none⟩), .int .u32 v, .int .i64 k] w fun e w' => e = .returned (.tuple #[]) ∧ Wrote w base p g (num bs + X * 2 ^ n) (n + k) w' := by
  obtain ⟨fv, h1, hg, h3⟩ := h.blk
  subst hg
  have hlt := h.lt.1
  have hbase := h.hp
  have hlo := hw.lo
  have hhi := hw.hi
  obtain ⟨ao, c, rfl⟩ := own_shape h3
  obtain ⟨c0, c1, f0, f1⟩ := two_cell h1
  have hX2 : X < 4294967296 := by
    have := Nat.mod_le v (2 ^ k); omega
  have HB := Lib.hid h1
  have H := Lib.hid h
  have HO := Lib.hid h3
  have HW := Lib.hid hw
  have HX := Lib.hid hX
  clear h1 h h3 hw hX
  by_cases hf : n < 8 * bs.length
  · obtain ⟨g0, rfl⟩ : ∃ g0, ao = some ⟨g0, 0, none⟩ := by
      rcases HO.out.2 with ⟨hh, h0⟩ | ⟨g0, cap, cur, hh, _⟩
      · omega
      · exact ⟨g0, by simp at hh; exact hh.1⟩
    have r0 := row_cell HO.out (bs.length - 1) (by omega)
    have r1 := HO.out.frozenAt (bs.length - 1)
    have hfd : decide ((n : Int) < (bs.length : Int) * 8) = true := by simp; omega
    go_enter Tryd.func24, Tryd.ntmps24
    go_wp2_with (first
      | (go_at_call 39; refine (isWidth_yes k _ (by omega) (by omega)).mono ?_; rintro e w' ⟨rfl, rfl⟩)
      | (go_at_call 40; refine (lowest_eq _ v k X _ rfl hk (by omega) HX.out).mono ?_; rintro e w' ⟨rfl, rfl⟩))
    go_quiet (fail)
    go_wp2
    go_region
    go_wp2
    go_loopw [8] (fun i wr => ∃ d : Nat, d < k + 8 ∧ i = .int .i64 d ∧ PutRel w base p (some g0) (num bs) n X d wr) (fun i _ => 40 - (intOf i).toNat)
    case atStart =>
      refine ⟨bs.length * 8 - n, by omega, by congr 1; omega, PutRel.first H.out HO.out HB.out HW.out hf hX2 _ rfl⟩
    case round =>
      obtain ⟨d, hd, rfl, hrel⟩ := hrel
      obtain ⟨bs1, g1, ho1, ht1, hr1, hl1, hn1⟩ := hrel
      obtain ⟨sv, s1, s2, s3⟩ := ho1.blk
      obtain ⟨ao1, cc1, rfl⟩ := own_shape s3
      obtain ⟨d0, d1, e0, e1⟩ := two_cell s1
      have hlt1 := ho1.lt.1
      have HO1 := Lib.hid ho1
      have HT1 := Lib.hid ht1
      have HR1 := Lib.hid hr1
      have HL1 := Lib.hid hl1
      have HN1 := Lib.hid hn1
      have HS1 := Lib.hid s1
      have HS2 := Lib.hid s2
      have HS3 := Lib.hid s3
      have hbl : bs1.length ≤ 999999100 := by omega
      clear ho1 ht1 hr1 hl1 hn1 s1 s2 s3
      by_cases hdk : d < k
      · go_wp2
        go_region_law (refine step_append_x rfl (.tmp 58) (.tmp 63) rfl base (.slice ao1 bs1.length cc1) (.slice (some ⟨wr.heap.size, 0, none⟩) 1 1) bs1 [X / 2 ^ d % 256] (by simp [Act.eval]) (by simp [Act.eval]) (World.ownsRow.alloc (w := wr) HS3.out _) (by_one wr (X / 2 ^ d % 256) (wrap8 X d)) (by simp; omega) (by simp; omega) ?_; intro ao2 cc2 w2 hA; obtain ⟨hs9, hR⟩ := put_behind HO1.out HS1.out HS2.out HT1.out HR1.out HL1.out HN1.out hA; obtain ⟨q0, q1, q2, q3⟩ := two_cell hs9; (try rw [List.length_append, List.length_singleton] at hR); have HR := Lib.hid hR; clear hA hs9 hR)
        all_goals
          go_wp2
          go_roundw
          case rel => exact ⟨d + 8, by omega, by go_num, HR.out⟩
          case measure => simp [intOf]; omega
      · have hXk : X < 2 ^ k := by rw [← HX.out]; exact Nat.mod_lt _ (Nat.two_pow_pos k)
        have hR : PutRel w base p (some g0) (num bs) n X d wr := ⟨bs1, g1, HO1.out, HT1.out, HR1.out, HL1.out, HN1.out⟩
        have hD := hR.done HW.out.lt hXk (by omega) hd (u := (n : Int) + k) (by omega)
        have HD := Lib.hid hD
        clear hXk hR hD
        go_wp2
        go_end0
        exact ⟨rfl, HD.out⟩
  · have hfd : decide ((n : Int) < (bs.length : Int) * 8) = false := by simp; omega
    go_enter Tryd.func24, Tryd.ntmps24
    go_wp2_with (first
      | (go_at_call 39; refine (isWidth_yes k _ (by omega) (by omega)).mono ?_; rintro e w' ⟨rfl, rfl⟩)
      | (go_at_call 40; refine (lowest_eq _ v k X _ rfl hk (by omega) HX.out).mono ?_; rintro e w' ⟨rfl, rfl⟩))
    go_quiet (fail)
    go_wp2
    go_loopw [8] (fun i wr => ∃ d : Nat, d < k + 8 ∧ i = .int .i64 d ∧ PutRel w base p (Value.slice ao bs.length c).ownBlock (num bs) n X d wr) (fun i _ => 40 - (intOf i).toNat)
    case atStart =>
      exact ⟨0, by omega, by congr 1; omega, PutRel.start H.out (by omega) _⟩
    case round =>
      obtain ⟨d, hd, rfl, hrel⟩ := hrel
      obtain ⟨bs1, g1, ho1, ht1, hr1, hl1, hn1⟩ := hrel
      obtain ⟨sv, s1, s2, s3⟩ := ho1.blk
      obtain ⟨ao1, cc1, rfl⟩ := own_shape s3
      obtain ⟨d0, d1, e0, e1⟩ := two_cell s1
      have hlt1 := ho1.lt.1
      have HO1 := Lib.hid ho1
      have HT1 := Lib.hid ht1
      have HR1 := Lib.hid hr1
      have HL1 := Lib.hid hl1
      have HN1 := Lib.hid hn1
      have HS1 := Lib.hid s1
      have HS2 := Lib.hid s2
      have HS3 := Lib.hid s3
      have hbl : bs1.length ≤ 999999100 := by omega
      clear ho1 ht1 hr1 hl1 hn1 s1 s2 s3
      by_cases hdk : d < k
      · go_wp2
        go_region_law (refine step_append_x rfl (.tmp 58) (.tmp 63) rfl base (.slice ao1 bs1.length cc1) (.slice (some ⟨wr.heap.size, 0, none⟩) 1 1) bs1 [X / 2 ^ d % 256] (by simp [Act.eval]) (by simp [Act.eval]) (World.ownsRow.alloc (w := wr) HS3.out _) (by_one wr (X / 2 ^ d % 256) (wrap8 X d)) (by simp; omega) (by simp; omega) ?_; intro ao2 cc2 w2 hA; obtain ⟨hs9, hR⟩ := put_behind HO1.out HS1.out HS2.out HT1.out HR1.out HL1.out HN1.out hA; obtain ⟨q0, q1, q2, q3⟩ := two_cell hs9; (try rw [List.length_append, List.length_singleton] at hR); have HR := Lib.hid hR; clear hA hs9 hR)
        all_goals
          go_wp2
          go_roundw
          case rel => exact ⟨d + 8, by omega, by go_num, HR.out⟩
          case measure => simp [intOf]; omega
      · have hXk : X < 2 ^ k := by rw [← HX.out]; exact Nat.mod_lt _ (Nat.two_pow_pos k)
        have hR : PutRel w base p (Value.slice ao bs.length c).ownBlock (num bs) n X d wr := ⟨bs1, g1, HO1.out, HT1.out, HR1.out, HL1.out, HN1.out⟩
        have hD := hR.done HW.out.lt hXk (by omega) hd (u := (n : Int) + k) (by omega)
        have HD := Lib.hid hD
        clear hXk hR hD
        go_wp2
        go_end0
        exact ⟨rfl, HD.out⟩

/-- A writer's object holds just these bits. -/
def Wr (w : World) (base p : Nat) (g : Option Nat) (N n : Nat) : Prop := ∃ bs, Ob w base 82 p g bs n ∧ WI bs n ∧ num bs = N

end Go.Proofs.YtnnkegpnjedneaaDoor


/-
  The contracts of a writer and of a reader, told by their bits.
-/
namespace Go.Proofs.YtnnkegpnjedneaaDoor
open Go.RowKit

/-- The blocks from B on. -/
def U (B k : Nat) : Prop := B ≤ k

theorem WI.nil : WI [] 0 := ⟨by simp, by simp, by simp [num]⟩

theorem WI.small {bs : List Nat} {n : Nat} (h : WI bs n) (hn : n ≤ 7000000000) : bs.length ≤ 900000000 := by
  have := h.hi; omega

/-- The bits of a writer tell its bytes. -/
theorem WI.same {a b : List Nat} {n : Nat} (ha : WI a n) (hb : WI b n) (ba : Bs a) (bb : Bs b) (h : num a = num b) : a = b := by
  have h1 := ha.lo; have h2 := ha.hi; have h3 := hb.lo; have h4 := hb.hi
  exact num_inj ba bb (by omega) h

/-- In w1 a writer stands at p, which holds n bits that tell N; since w only blocks from base on have changed. -/
def WrT (w w1 : World) (base p : Nat) (N n : Nat) : Prop := ∃ g, Wr w1 base p g N n ∧ Touch (U base) w w1

theorem Wr.foot {w : World} {base p : Nat} {g : Option Nat} {N n : Nat} (h : Wr w base p g N n) {k : Nat} (hk : Foot p g k) : base ≤ k ∧ k < w.heap.size := by
  obtain ⟨bs, ho, _⟩ := h
  exact ho.foot_lt hk

theorem Wr.touch {S : Nat → Prop} {w w' : World} {base p : Nat} {g : Option Nat} {N n : Nat} (h : Wr w base p g N n) (ht : Touch S w w') (hs : ∀ k, Foot p g k → ¬ S k) : Wr w' base p g N n := by
  obtain ⟨bs, ho, r⟩ := h
  exact ⟨bs, ho.touch ht hs, r⟩

/-- What a Put leaves. -/
def PutTo (w : World) (base p : Nat) (g : Option Nat) (N n : Nat) (w' : World) : Prop :=
  ∃ g', Wr w' base p g' N n ∧ Touch (Foot p g) w w' ∧ ∀ k, g' = some k → g = some k ∨ w.heap.size ≤ k

theorem Wr.put {w : World} {base p : Nat} {g : Option Nat} {N n : Nat} (h : Wr w base p g N n) (hn : n ≤ 7000000000) (v k X : Nat) (hv : v < 4294967296) (hk : k ≤ 32) (hX : v % 2 ^ k = X) :
    Calls Tryd.prog 24 #[.pointer (some ⟨p, 0, none⟩), .int .u32 v, .int .i64 k] w fun e w' => e = .returned (.tuple #[]) ∧ PutTo w base p g (N + X * 2 ^ n) (n + k) w' := by
  obtain ⟨bs, ho, hw, rfl⟩ := h
  refine (put_yes ho hw (by have := hw.small hn; omega) v k X hv hk hX).mono ?_
  rintro e w' ⟨rfl, bs', ⟨g', ho', ht, hr⟩, hw', hn'⟩
  exact ⟨rfl, g', ⟨bs', ho', hw', hn'⟩, ht, hr⟩

theorem WrT.put {w w1 : World} {base p : Nat} {N n : Nat} (h : WrT w w1 base p N n) (hn : n ≤ 7000000000) (v k X N' : Nat) (hv : v < 4294967296) (hk : k ≤ 32) (hX : v % 2 ^ k = X) (hN : N + X * 2 ^ n = N') :
    Calls Tryd.prog 24 #[.pointer (some ⟨p, 0, none⟩), .int .u32 v, .int .i64 k] w1 fun e w' => e = .returned (.tuple #[]) ∧ WrT w w' base p N' (n + k) := by
  subst hN
  obtain ⟨g, hw, ht⟩ := h
  refine (hw.put hn v k X hv hk hX).mono ?_
  rintro e w' ⟨rfl, g', hw', ht', _⟩
  exact ⟨rfl, g', hw', ht.trans (ht'.mono fun k hk => (hw.foot hk).1)⟩

/-- What Out answers: a new copy of the writer's bytes. -/
def OutOf (w w1 : World) (base p : Nat) (N n : Nat) (e : Ending) (w2 : World) : Prop :=
  ∃ bs a c g, e = .returned (.slice a bs.length c) ∧ Bs bs ∧ WI bs n ∧ num bs = N ∧ w2.ownsRow w1.heap.size 5 1 (.slice a bs.length c) bs.length (u8s bs) ∧ Wr w1 base p g N n ∧ Wr w2 base p g N n ∧ Touch (U base) w w2 ∧ Touch (fun _ => False) w1 w2

theorem WrT.out {w w1 : World} {base p : Nat} {N n : Nat} (h : WrT w w1 base p N n) (hn : n ≤ 7000000000) :
    Calls Tryd.prog 26 #[.pointer (some ⟨p, 0, none⟩)] w1 (OutOf w w1 base p N n) := by
  obtain ⟨g, ⟨bs, ho, hw, rfl⟩, ht⟩ := h
  have hl := hw.small hn
  refine (ho.wout (by omega)).mono ?_
  rintro e w2 ⟨a, c, rfl, hown, hlow, ht2⟩
  exact ⟨bs, a, c, g, rfl, ho.hb, hw, rfl, hown, ⟨bs, ho, hw, rfl⟩, ⟨bs, ho.touch ht2 (fun _ _ h => h), hw, rfl⟩, ht.trans (ht2.mono fun _ h => h.elim), ht2⟩

theorem MadeOb.wr {w w1 w2 : World} {e : Ending} {base : Nat} (h : MadeOb w1 w1.heap.size 82 [] 0 e w2) (hb : base ≤ w1.heap.size) (ht : Touch (U base) w w1) :
    ∃ p, e = .returned (.pointer (some ⟨p, 0, none⟩)) ∧ WrT w w2 base p 0 0 := by
  obtain ⟨p, g, rfl, ho, ht2⟩ := h
  refine ⟨p, rfl, g, ⟨[], ⟨?_, by have := ho.hp; omega, ho.hb, ho.ht⟩, WI.nil, rfl⟩, ht.trans (ht2.mono fun _ h => h.elim)⟩
  obtain ⟨sv, h1, h2, h3⟩ := ho.blk
  exact ⟨sv, h1, h2, own_base h3 hb⟩

theorem newWriter_T {w w1 : World} {base : Nat} (hb : base ≤ w1.heap.size) (ht : Touch (U base) w w1) :
    Calls Tryd.prog 23 #[] w1 fun e w2 => ∃ p, e = .returned (.pointer (some ⟨p, 0, none⟩)) ∧ WrT w w2 base p 0 0 :=
  (newWriter_any w1).mono fun _ _ h => h.wr hb ht

theorem BySl.lt {w : World} {v : Value} {xs : List Nat} (h : BySl w v xs) (hp : 0 < xs.length) : ∀ k, v.ownBlock = some k → k < w.heap.size := by
  intro k hk
  obtain ⟨b, off, c, rfl, _, hc⟩ := h.at hp
  have := World.block_lt_of_cell? w _ (hc 0 hp)
  simp [Value.ownBlock] at hk
  subst hk
  exact this

theorem WI.up {bs : List Nat} {n : Nat} (h : WI bs n) : up8 n = 8 * bs.length := by
  have h1 := h.lo; have h2 := h.hi
  unfold up8; omega

theorem WrT.alloc {w w1 : World} {base p : Nat} {N n : Nat} (h : WrT w w1 base p N n) (o : Obj) : WrT w (w1.alloc o) base p N n := by
  obtain ⟨g, hw, ht⟩ := h
  exact ⟨g, hw.touch ((Touch.refl (fun _ => False) w1).alloc o) (fun _ _ h => h), ht.alloc o⟩

theorem WrT.drewN {w w1 : World} {base p : Nat} {N n : Nat} (h : WrT w w1 base p N n) (k : Nat) : WrT w (w1.drewN k) base p N n := by
  obtain ⟨g, hw, ht⟩ := h
  exact ⟨g, hw.touch ((Touch.refl (fun _ => False) w1).drewN k) (fun _ _ h => h), ht.drewN k⟩

theorem PutTo.go {w w1 w2 : World} {base p : Nat} {g : Option Nat} {N n M m : Nat} (h : PutTo w1 base p g N n w2) (hw : Wr w1 base p g M m) (ht : Touch (U base) w w1) : WrT w w2 base p N n := by
  obtain ⟨g', hw', ht', _⟩ := h
  exact ⟨g', hw', ht.trans (ht'.mono fun k hk => (hw.foot hk).1)⟩

def RdT (w0 w1 : World) (p : Nat) (bs : List Nat) (at_ : Nat) : Prop := ∃ g, Ob w1 w0.heap.size 96 p g bs at_ ∧ Touch (U w0.heap.size) w0 w1

theorem newReader_T {w : World} {v : Value} {xs : List Nat} (h : BySl w v xs) (hb : Bs xs) (hl : xs.length ≤ 1000000000) :
    Calls Tryd.prog 31 #[v] w fun e w1 => ∃ p, e = .returned (.pointer (some ⟨p, 0, none⟩)) ∧ RdT w w1 p xs 0 :=
  (newReader_any h hb hl).mono fun _ _ ⟨p, g, he, ho, ht⟩ => ⟨p, he, g, ho, ht.mono fun _ h => h.elim⟩

theorem RdT.moved {w0 w1 w2 : World} {p : Nat} {g : Option Nat} {bs : List Nat} {m : Nat} (hp : w0.heap.size ≤ p) (ht : Touch (U w0.heap.size) w0 w1) (h : Moved w1 w0.heap.size 96 p g bs m w2) : RdT w0 w2 p bs m :=
  ⟨g, h.1, ht.trans (h.2.mono fun k hk => by subst hk; exact hp)⟩

theorem RdT.drewN {w0 w1 : World} {p : Nat} {bs : List Nat} {m : Nat} (h : RdT w0 w1 p bs m) (n : Nat) : RdT w0 (w1.drewN n) p bs m := by
  obtain ⟨g, ho, ht⟩ := h
  exact ⟨g, ho.drewN n, ht.drewN n⟩

theorem RdT.peek {w0 w1 : World} {p : Nat} {bs : List Nat} {at_ : Nat} (h : RdT w0 w1 p bs at_) (hl : bs.length ≤ 1000000000) (ha : at_ ≤ 8 * bs.length) (n V : Nat) (hn : n ≤ 32) (hV : pk bs at_ n = V) :
    Calls Tryd.prog 73 #[.pointer (some ⟨p, 0, none⟩), .int .i64 n] w1 fun e w' => e = .returned (.int .u32 V) ∧ w1 = w' := by
  subst hV
  obtain ⟨g, ho, ht⟩ := h
  exact ho.peek hl ha n hn

theorem RdT.skip {w0 w1 : World} {p : Nat} {bs : List Nat} {at_ : Nat} (h : RdT w0 w1 p bs at_) (hl : bs.length ≤ 1000000000) (n : Nat) (hn : at_ + n ≤ 8 * bs.length) :
    Calls Tryd.prog 74 #[.pointer (some ⟨p, 0, none⟩), .int .i64 n] w1 fun e w' => e = .returned (.bool true) ∧ RdT w0 w' p bs (at_ + n) := by
  obtain ⟨g, ho, ht⟩ := h
  exact (ho.skip_yes hl n hn).mono fun _ _ ⟨he, hm⟩ => ⟨he, RdT.moved ho.hp ht hm⟩

theorem RdT.bits {w0 w1 : World} {p : Nat} {bs : List Nat} {at_ : Nat} (h : RdT w0 w1 p bs at_) (hl : bs.length ≤ 1000000000) (n V : Nat) (hn32 : n ≤ 32) (hn : at_ + n ≤ 8 * bs.length) (hV : pk bs at_ n = V) :
    Calls Tryd.prog 65 #[.pointer (some ⟨p, 0, none⟩), .int .i64 n] w1 fun e w' => e = .returned (.tuple #[.int .u32 V, .bool true]) ∧ RdT w0 w' p bs (at_ + n) := by
  subst hV
  obtain ⟨g, ho, ht⟩ := h
  exact (ho.bits_yes hl n hn32 hn).mono fun _ _ ⟨he, hm⟩ => ⟨he, RdT.moved ho.hp ht hm⟩

theorem RdT.bits_no {w0 w1 : World} {p : Nat} {bs : List Nat} {at_ : Nat} (h : RdT w0 w1 p bs at_) (hl : bs.length ≤ 1000000000) (ha : at_ ≤ 8 * bs.length) (n : Int) (hn : n < 0 ∨ 32 < n ∨ 8 * (bs.length : Int) - at_ < n) :
    Calls Tryd.prog 65 #[.pointer (some ⟨p, 0, none⟩), .int .i64 n] w1 fun e w' => e = .returned (.tuple #[.int .u32 0, .bool false]) ∧ ∃ nq, w' = w1.drewN nq := by
  obtain ⟨g, ho, ht⟩ := h
  exact ho.bits_no hl ha n hn

theorem RdT.skip_no {w0 w1 : World} {p : Nat} {bs : List Nat} {at_ : Nat} (h : RdT w0 w1 p bs at_) (hl : bs.length ≤ 1000000000) (ha : at_ ≤ 8 * bs.length) (n : Int) (hn : n < 0 ∨ 8 * (bs.length : Int) - at_ < n) :
    Calls Tryd.prog 74 #[.pointer (some ⟨p, 0, none⟩), .int .i64 n] w1 fun e w' => e = .returned (.bool false) ∧ ∃ nq, w' = w1.drewN nq := by
  obtain ⟨g, ho, ht⟩ := h
  exact ho.skip_no hl ha n hn

theorem RdT.at {w0 w1 : World} {p : Nat} {bs : List Nat} {at_ : Nat} (h : RdT w0 w1 p bs at_) :
    Calls Tryd.prog 34 #[.pointer (some ⟨p, 0, none⟩)] w1 fun e w' => e = .returned (.int .i64 at_) ∧ w1 = w' := by
  obtain ⟨g, ho, ht⟩ := h
  exact ho.at

theorem RdT.left {w0 w1 : World} {p : Nat} {bs : List Nat} {at_ : Nat} (h : RdT w0 w1 p bs at_) (hl : bs.length ≤ 1000000000) (ha : at_ ≤ 8 * bs.length) :
    Calls Tryd.prog 86 #[.pointer (some ⟨p, 0, none⟩)] w1 fun e w' => e = .returned (.int .i64 (8 * bs.length - at_)) ∧ ∃ nq, w' = w1.drewN nq := by
  obtain ⟨g, ho, ht⟩ := h
  exact ho.left hl ha

/-- What Bytes answers. -/
def BytesOf (w0 w1 : World) (p : Nat) (bs : List Nat) (m : Nat) (xs : List Nat) (e : Ending) (w2 : World) : Prop :=
  ∃ a c, e = .returned (.tuple #[.slice a xs.length c, .bool true]) ∧ w2.ownsRow w1.heap.size 5 1 (.slice a xs.length c) xs.length (u8s xs) ∧ RdT w0 w2 p bs m

theorem RdT.bytes {w0 w1 : World} {p : Nat} {bs : List Nat} {at_ : Nat} (h : RdT w0 w1 p bs at_) (hl : bs.length ≤ 1000000000) (ha : at_ ≤ 8 * bs.length) (n m : Nat) (xs : List Nat) (hn : (at_ + 7) / 8 + n ≤ bs.length) (hm : ((at_ + 7) / 8 + n) * 8 = m) (hx : (bs.drop ((at_ + 7) / 8)).take n = xs) :
    Calls Tryd.prog 76 #[.pointer (some ⟨p, 0, none⟩), .int .i64 n] w1 (BytesOf w0 w1 p bs m xs) := by
  subst hm; subst hx
  obtain ⟨g, ho, ht⟩ := h
  refine (ho.bytes_yes hl ha n hn).mono ?_
  rintro e w2 ⟨a, c, he, hown, hlow, ho2, ht2⟩
  exact ⟨a, c, he, hown, RdT.moved ho.hp ht ⟨ho2, ht2⟩⟩

theorem RdT.bytes_no {w0 w1 : World} {p : Nat} {bs : List Nat} {at_ : Nat} (h : RdT w0 w1 p bs at_) (hl : bs.length ≤ 1000000000) (ha : at_ ≤ 8 * bs.length) (n : Int) (hn : n < 0 ∨ (bs.length : Int) - ((at_ : Int) + 7) / 8 < n) :
    Calls Tryd.prog 76 #[.pointer (some ⟨p, 0, none⟩), .int .i64 n] w1 fun e w' => e = .returned (.tuple #[.slice none 0 0, .bool false]) ∧ w1 = w' := by
  obtain ⟨g, ho, ht⟩ := h
  exact ho.bytes_no hl ha n hn

end Go.Proofs.YtnnkegpnjedneaaDoor


/-
  Contracts of Reverse.
-/
namespace Go.Proofs.YtnnkegpnjedneaaDoor
open Go.RowKit

theorem st_int (m s S x X : Nat) (hS : S = 2 ^ s) (hm : m < 4294967296) (hx : x < 4294967296) (hX : st m s x = X) :
    bits BinOp.or IntKind.u32 (bits BinOp.and IntKind.u32 ((x : Int) / (S : Int)) (m : Int)) (bits BinOp.and IntKind.u32 (x : Int) (m : Int) * (S : Int) % 4294967296) = (X : Int) := by
  subst hX; subst hS
  have h1 : x / 2 ^ s ≤ x := Nat.div_le_self _ _
  have e1 : ((x : Int) / ((2 ^ s : Nat) : Int)) = ((x / 2 ^ s : Nat) : Int) := by simp
  rw [e1, u32_and_nat _ _ (by omega) hm, u32_and_nat _ _ hx hm]
  have e2 : (((x &&& m : Nat) : Int) * ((2 ^ s : Nat) : Int) % 4294967296) = (((x &&& m) * 2 ^ s % 4294967296 : Nat) : Int) := by rw [← Int.natCast_mul]; omega
  rw [e2, u32_or_nat _ _ (Nat.lt_of_le_of_lt Nat.and_le_right hm) (by omega)]
  rfl

theorem st16_int (x X : Nat) (hx : x < 4294967296) (hX : st 65535 16 x = X) :
    bits BinOp.or IntKind.u32 ((x : Int) / 65536) ((x : Int) * 65536 % 4294967296) = (X : Int) := by
  subst hX
  have e1 : ((x : Int) / 65536) = ((x / 65536 : Nat) : Int) := by omega
  have e2 : ((x : Int) * 65536 % 4294967296) = ((x * 65536 % 4294967296 : Nat) : Int) := by omega
  rw [e1, e2, u32_or_nat _ _ (by omega) (by omega)]
  unfold st
  rw [show (65535 : Nat) = 2 ^ 16 - 1 from rfl, Nat.and_two_pow_sub_one_eq_mod, Nat.and_two_pow_sub_one_eq_mod]
  have a : x / 2 ^ 16 % 2 ^ 16 = x / 65536 := by
    have : (2 : Nat) ^ 16 = 65536 := rfl
    omega
  have b : x % 2 ^ 16 * 2 ^ 16 % 2 ^ 32 = x * 65536 % 4294967296 := by
    have : (2 : Nat) ^ 16 = 65536 := rfl
    have : (2 : Nat) ^ 32 = 4294967296 := rfl
    omega
  rw [a, b]

theorem rb32 (v a b : Nat) (w : World) (hv : v < 4294967296) (ha : st 16711935 8 v = a) (hb : st 65535 16 a = b) :
    Calls Tryd.prog 85 #[.int .u32 v] w fun e w' => e = .returned (.int .u32 b) ∧ w = w' := by
  have hal : a < 4294967296 := by rw [← ha]; exact st_lt _ _ _ (by omega)
  have h1 := st_int 16711935 8 256 v a rfl (by omega) hv ha
  have h2 := st16_int a b hal hb
  clear ha hb
  simp only [Int.cast_ofNat_Int] at h1
  go_enter Tryd.func85, Tryd.ntmps85
  go_wp2
  go_ret
  exact ⟨rfl, rfl⟩

theorem r32_walk (v a b c d e : Nat) (w : World) (hv : v < 4294967296) (ha : st 1431655765 1 v = a) (hb : st 858993459 2 a = b) (hc : st 252645135 4 b = c) (hd : st 16711935 8 c = d) (he : st 65535 16 d = e) :
    Calls Tryd.prog 71 #[.int .u32 v] w fun en w' => en = .returned (.int .u32 e) ∧ w = w' := by
  have hal : a < 4294967296 := by rw [← ha]; exact st_lt _ _ _ (by omega)
  have hbl : b < 4294967296 := by rw [← hb]; exact st_lt _ _ _ (by omega)
  have hcl : c < 4294967296 := by rw [← hc]; exact st_lt _ _ _ (by omega)
  have h1 := st_int 1431655765 1 2 v a rfl (by omega) hv ha
  have h2 := st_int 858993459 2 4 a b rfl (by omega) hal hb
  have h3 := st_int 252645135 4 16 b c rfl (by omega) hbl hc
  have HD := Lib.hid hd
  have HE := Lib.hid he
  clear ha hb hc hd he
  simp only [Int.cast_ofNat_Int] at h1 h2 h3
  go_enter Tryd.func71, Tryd.ntmps71
  go_wp2_with (go_at_call 85; refine (rb32 c d e _ hcl HD.out HE.out).mono ?_; rintro en w' ⟨rfl, rfl⟩)
  go_ret
  exact ⟨rfl, rfl⟩

theorem reverse32_any (v : Nat) (w : World) (hv : v < 4294967296) :
    Calls Tryd.prog 71 #[.int .u32 v] w fun en w' => en = .returned (.int .u32 (rv 32 v : Nat)) ∧ w = w' := by
  rw [← r32_rv]
  exact r32_walk v _ _ _ _ _ w hv rfl rfl rfl rfl rfl

theorem reverse_no (v n : Int) (w : World) (hn : n < 0 ∨ 32 < n) :
    Calls Tryd.prog 56 #[.int .u32 v, .int .i64 n] w fun e w' => e = .returned (.int .u32 0) ∧ w = w' := by
  go_enter Tryd.func56, Tryd.ntmps56
  go_wp2_with (go_at_call 39; refine (isWidth_no n _ hn).mono ?_; rintro e w' ⟨rfl, rfl⟩)
  go_ret
  exact ⟨rfl, rfl⟩

theorem reverse_yes (v n : Nat) (w : World) (hv : v < 4294967296) (hn : n ≤ 32) :
    Calls Tryd.prog 56 #[.int .u32 v, .int .i64 n] w fun e w' => e = .returned (.int .u32 (rv n v : Nat)) ∧ w = w' := by
  have hd := rv_div n (32 - n) v
  rw [show n + (32 - n) = 32 from by omega] at hd
  obtain ⟨R, hR⟩ : ∃ R, rv 32 v = R := ⟨_, rfl⟩
  obtain ⟨S, hS⟩ : ∃ S, rv n v = S := ⟨_, rfl⟩
  rw [hR, hS] at hd
  have hrev := reverse32_any v w hv
  rw [hR] at hrev
  rw [hS]
  have HR := Lib.hid hrev
  have HD := Lib.hid hd
  clear hR hS hd hrev
  go_enter Tryd.func56, Tryd.ntmps56
  go_wp2_with (first
    | (go_at_call 39; refine (isWidth_yes n _ (by omega) (by omega)).mono ?_; rintro e w' ⟨rfl, rfl⟩)
    | (go_at_call 71; refine HR.out.mono ?_; rintro e w' ⟨rfl, rfl⟩))
  go_ret
  exact ⟨ret_int (by rw [← HD.out]; simp), rfl⟩
end Go.Proofs.YtnnkegpnjedneaaDoor


/-
  Plain mathematics of codes that are told by their lengths: counts, first codes, places, ranks; which code a row of fifteen bits begins with.
-/
namespace Go.Proofs.YtnnkegpnjedneaaDoor

/-- How many of the lengths are n (none of 0). -/
def cn (ls : List Nat) (n : Nat) : Nat := if n = 0 then 0 else ls.count n
/-- The first code of length n. -/
def fc (ls : List Nat) : Nat → Nat
  | 0 => 0
  | n + 1 => (fc ls n + cn ls n) * 2
/-- How many codes are shorter than n. -/
def fp (ls : List Nat) : Nat → Nat
  | 0 => 0
  | n + 1 => fp ls n + cn ls n
/-- The room of the codes that are shorter than n. -/
def sp (ls : List Nat) : Nat → Nat
  | 0 => 0
  | n + 1 => sp ls n + cn ls n * 2 ^ (15 - n)
def ln (ls : List Nat) (s : Nat) : Nat := ls.getD s 0
/-- How many ahead of s have its length. -/
def rk (ls : List Nat) (s : Nat) : Nat := (ls.take s).count (ln ls s)
/-- The code of s. -/
def cd (ls : List Nat) (s : Nat) : Nat := fc ls (ln ls s) + rk ls s
/-- All room. -/
def room (ls : List Nat) : Nat := sp ls 16

/-- Lengths that are not too many. -/
structure Ok (ls : List Nat) : Prop where
  len : ls.length ≤ 320
  le : ∀ x ∈ ls, x ≤ 15
  few : room ls ≤ 32768

theorem pow_split {n : Nat} (h : n ≤ 15) : 2 ^ n * 2 ^ (15 - n) = 32768 := by rw [← Nat.pow_add, show n + (15 - n) = 15 by omega]

theorem fc_sp (ls : List Nat) (n : Nat) (h : n ≤ 15) : fc ls n * 2 ^ (15 - n) = sp ls n := by
  induction n with
  | zero => simp [fc, sp]
  | succ n ih =>
    have := ih (by omega)
    have e : 2 * 2 ^ (15 - (n + 1)) = 2 ^ (15 - n) := by rw [← Nat.pow_succ', show (15 - (n + 1)).succ = 15 - n by omega]
    rw [fc, sp, ← this, Nat.mul_assoc, e, Nat.add_mul]

theorem sp_mono (ls : List Nat) {m n : Nat} (h : m ≤ n) : sp ls m ≤ sp ls n := by
  induction n with
  | zero => obtain rfl : m = 0 := by omega
            exact Nat.le_refl _
  | succ n ih =>
    by_cases e : m = n + 1
    · subst e; exact Nat.le_refl _
    · have := ih (by omega)
      rw [sp]; omega

theorem fp_mono (ls : List Nat) {m n : Nat} (h : m ≤ n) : fp ls m ≤ fp ls n := by
  induction n with
  | zero => obtain rfl : m = 0 := by omega
            exact Nat.le_refl _
  | succ n ih =>
    by_cases e : m = n + 1
    · subst e; exact Nat.le_refl _
    · have := ih (by omega)
      rw [fp]; omega

theorem ln_lt {ls : List Nat} {s : Nat} (h : ln ls s ≠ 0) : s < ls.length := by
  unfold ln at h
  rcases Nat.lt_or_ge s ls.length with h1 | h1
  · exact h1
  · simp [List.getD, h1] at h
theorem ln_le {ls : List Nat} (H : Ok ls) (s : Nat) : ln ls s ≤ 15 := by
  unfold ln
  rcases Nat.lt_or_ge s ls.length with h1 | h1
  · rw [List.getD_eq_getElem?_getD, List.getElem?_eq_getElem h1]; exact H.le _ (List.getElem_mem h1)
  · simp [List.getD, h1]

theorem take_succ_ln {ls : List Nat} {s : Nat} (h : s < ls.length) : ls.take (s + 1) = ls.take s ++ [ln ls s] := by
  rw [List.take_succ_eq_append_getElem h]
  simp [ln, List.getD, h]

theorem count_take_le (ls : List Nat) (s n : Nat) : (ls.take s).count n ≤ ls.count n := by
  exact (List.take_sublist s ls).count_le n

theorem rk_lt {ls : List Nat} {s : Nat} (h : ln ls s ≠ 0) : rk ls s < cn ls (ln ls s) := by
  have h1 := count_take_le ls (s + 1) (ln ls s)
  rw [take_succ_ln (ln_lt h), List.count_append] at h1
  have h2 : [ln ls s].count (ln ls s) = 1 := by simp
  unfold rk cn
  rw [if_neg h]
  omega

/-- The room of s: from lo on, 2 ^ (15 - length). -/
def lo (ls : List Nat) (s : Nat) : Nat := cd ls s * 2 ^ (15 - ln ls s)
def hi (ls : List Nat) (s : Nat) : Nat := (cd ls s + 1) * 2 ^ (15 - ln ls s)

theorem lo_eq {ls : List Nat} (H : Ok ls) (s : Nat) : lo ls s = sp ls (ln ls s) + rk ls s * 2 ^ (15 - ln ls s) := by
  unfold lo cd
  rw [Nat.add_mul, fc_sp ls _ (ln_le H s)]
theorem hi_eq {ls : List Nat} (s : Nat) : hi ls s = lo ls s + 2 ^ (15 - ln ls s) := by
  unfold hi lo
  rw [Nat.add_mul, Nat.one_mul]
theorem lo_ge {ls : List Nat} (H : Ok ls) (s : Nat) : sp ls (ln ls s) ≤ lo ls s := by rw [lo_eq H]; omega
theorem hi_le {ls : List Nat} (H : Ok ls) {s : Nat} (h : ln ls s ≠ 0) : hi ls s ≤ sp ls (ln ls s + 1) := by
  rw [hi_eq, lo_eq H, sp]
  have h1 : (rk ls s + 1) * 2 ^ (15 - ln ls s) ≤ cn ls (ln ls s) * 2 ^ (15 - ln ls s) := Nat.mul_le_mul_right _ (rk_lt h)
  rw [Nat.add_mul] at h1
  omega
theorem hi_room {ls : List Nat} (H : Ok ls) {s : Nat} (h : ln ls s ≠ 0) : hi ls s ≤ room ls :=
  Nat.le_trans (hi_le H h) (sp_mono ls (by have := ln_le H s; omega))
theorem lo_hi (ls : List Nat) (s : Nat) : lo ls s < hi ls s := by rw [hi_eq]; have := Nat.two_pow_pos (15 - ln ls s); omega

theorem cd_lt {ls : List Nat} (H : Ok ls) {s : Nat} (h : ln ls s ≠ 0) : cd ls s < 2 ^ ln ls s := by
  have h1 := hi_room H h
  have h2 := H.few
  have h3 := pow_split (ln_le H s)
  unfold hi at h1
  rcases Nat.lt_or_ge (cd ls s) (2 ^ ln ls s) with h4 | h4
  · exact h4
  · exfalso
    have h5 : (2 ^ ln ls s + 1) * 2 ^ (15 - ln ls s) ≤ (cd ls s + 1) * 2 ^ (15 - ln ls s) := Nat.mul_le_mul_right _ (by omega)
    rw [Nat.add_mul, h3] at h5
    have := Nat.two_pow_pos (15 - ln ls s)
    omega

/-- Codes stand in order, by length, then by symbol. -/
theorem rk_mono {ls : List Nat} {s t : Nat} (hs : ln ls s ≠ 0) (he : ln ls s = ln ls t) (h : s < t) : rk ls s < rk ls t := by
  have h1 : (ls.take (s + 1)).count (ln ls s) ≤ (ls.take t).count (ln ls s) := by
    have : ls.take (s + 1) = (ls.take t).take (s + 1) := by rw [List.take_take, Nat.min_eq_left (by omega)]
    rw [this]
    exact count_take_le _ _ _
  rw [take_succ_ln (ln_lt hs), List.count_append] at h1
  have h2 : [ln ls s].count (ln ls s) = 1 := by simp
  unfold rk
  rw [← he]
  omega
theorem hi_lo {ls : List Nat} (H : Ok ls) {s t : Nat} (hs : ln ls s ≠ 0) (_ht : ln ls t ≠ 0) (h : ln ls s < ln ls t ∨ ln ls s = ln ls t ∧ s < t) : hi ls s ≤ lo ls t := by
  rcases h with h | ⟨he, h⟩
  · exact Nat.le_trans (hi_le H hs) (Nat.le_trans (sp_mono ls h) (lo_ge H t))
  · have h1 := rk_mono hs he h
    rw [hi_eq, lo_eq H, lo_eq H, ← he]
    have h2 : (rk ls s + 1) * 2 ^ (15 - ln ls s) ≤ rk ls t * 2 ^ (15 - ln ls s) := Nat.mul_le_mul_right _ h1
    rw [Nat.add_mul] at h2
    omega
theorem apart_codes {ls : List Nat} (H : Ok ls) {s t : Nat} (hs : ln ls s ≠ 0) (ht : ln ls t ≠ 0) (hne : s ≠ t) : hi ls s ≤ lo ls t ∨ hi ls t ≤ lo ls s := by
  by_cases h : ln ls s < ln ls t
  · exact .inl (hi_lo H hs ht (.inl h))
  · by_cases h2 : ln ls t < ln ls s
    · exact .inr (hi_lo H ht hs (.inl h2))
    · have he : ln ls s = ln ls t := by omega
      rcases Nat.lt_or_ge s t with h3 | h3
      · exact .inl (hi_lo H hs ht (.inr ⟨he, h3⟩))
      · exact .inr (hi_lo H ht hs (.inr ⟨he.symm, by omega⟩))

/-- Fifteen bits A begin with the code of s. -/
def Beg (ls : List Nat) (A s : Nat) : Prop := ln ls s ≠ 0 ∧ A / 2 ^ (15 - ln ls s) = cd ls s
theorem beg_iff {ls : List Nat} {A s : Nat} : Beg ls A s ↔ ln ls s ≠ 0 ∧ lo ls s ≤ A ∧ A < hi ls s := by
  unfold Beg lo hi
  rw [Nat.div_eq_iff (Nat.two_pow_pos _)]
  have := Nat.two_pow_pos (15 - ln ls s)
  rw [Nat.add_mul, Nat.one_mul]
  constructor
  · rintro ⟨h0, h1, h2⟩; exact ⟨h0, by omega, by omega⟩
  · rintro ⟨h0, h1, h2⟩; exact ⟨h0, by omega, by omega⟩
theorem beg_one {ls : List Nat} (H : Ok ls) {A s t : Nat} (h1 : Beg ls A s) (h2 : Beg ls A t) : s = t := by
  rw [beg_iff] at h1 h2
  by_cases e : s = t
  · exact e
  · rcases apart_codes H h1.1 h2.1 e with h | h <;> omega

/-- The symbol of length n and rank r. -/
theorem rank_sym (ls : List Nat) (n : Nat) : ∀ k r, n ≠ 0 → r < (ls.take k).count n → ∃ s, s < k ∧ ln ls s = n ∧ rk ls s = r := by
  intro k
  induction k with
  | zero => intro r _ h; simp at h
  | succ k ih =>
    intro r hn h
    by_cases hk : k < ls.length
    · rw [take_succ_ln hk, List.count_append] at h
      by_cases h2 : r < (ls.take k).count n
      · obtain ⟨s, h3, h4⟩ := ih r hn h2
        exact ⟨s, by omega, h4⟩
      · have h5 : [ln ls k].count n ≤ 1 := by rw [List.count_singleton]; split <;> omega
        by_cases h6 : ln ls k = n
        · exact ⟨k, by omega, h6, by unfold rk; rw [h6]; omega⟩
        · have : [ln ls k].count n = 0 := by rw [List.count_singleton]; simp [h6]
          omega
    · rw [List.take_of_length_le (by omega)] at h
      rw [← List.take_of_length_le (show ls.length ≤ k by omega)] at h
      obtain ⟨s, h3, h4⟩ := ih r hn h
      exact ⟨s, by omega, h4⟩
theorem rank_all {ls : List Nat} {n r : Nat} (hn : n ≠ 0) (h : r < cn ls n) : ∃ s, s < ls.length ∧ ln ls s = n ∧ rk ls s = r := by
  unfold cn at h
  rw [if_neg hn] at h
  exact rank_sym ls n ls.length r hn (by rwa [List.take_length])

/-- The step of the search: A is in the room of length n just if its first n bits are so little above the first code. -/
theorem over_lt {ls : List Nat} {A n : Nat} (hn : n ≤ 15) : A / 2 ^ (15 - n) < fc ls n + cn ls n ↔ A < sp ls (n + 1) := by
  rw [Nat.div_lt_iff_lt_mul (Nat.two_pow_pos _), Nat.add_mul, fc_sp ls n hn, sp]
theorem over_ge {ls : List Nat} {A n : Nat} (hn : n ≤ 15) (h : sp ls n ≤ A) : fc ls n ≤ A / 2 ^ (15 - n) := by
  rw [Nat.le_div_iff_mul_le (Nat.two_pow_pos _), fc_sp ls n hn]
  exact h
theorem over_sym {ls : List Nat} {A n s : Nat} (hn : n ≠ 0) (h : fc ls n ≤ A / 2 ^ (15 - n)) (hs : ln ls s = n) (hr : rk ls s = A / 2 ^ (15 - n) - fc ls n) : Beg ls A s := by
  refine ⟨by omega, ?_⟩
  unfold cd
  rw [hs]
  omega
theorem none_of {ls : List Nat} (H : Ok ls) {A : Nat} (h : room ls ≤ A) (s : Nat) : ¬ Beg ls A s := by
  rw [beg_iff]
  rintro ⟨h0, h1, h2⟩
  have := hi_room H h0
  omega

/-- The number of codes. -/
def many (ls : List Nat) : Nat := fp ls 16
theorem fp_lt {ls : List Nat} (H : Ok ls) {s : Nat} (h : ln ls s ≠ 0) : fp ls (ln ls s) + rk ls s < many ls := by
  have h1 := rk_lt h
  have h2 : fp ls (ln ls s + 1) ≤ fp ls 16 := fp_mono ls (by have := ln_le H s; omega)
  rw [fp] at h2
  unfold many
  omega
theorem fp_inj {ls : List Nat} {s t : Nat} (hs : ln ls s ≠ 0) (ht : ln ls t ≠ 0) (h : fp ls (ln ls s) + rk ls s = fp ls (ln ls t) + rk ls t) : s = t := by
  have key : ∀ a b, ln ls a ≠ 0 → ln ls b ≠ 0 → ln ls a < ln ls b → fp ls (ln ls a) + rk ls a < fp ls (ln ls b) + rk ls b := by
    intro a b ha hb hab
    have h1 := rk_lt ha
    have h2 : fp ls (ln ls a + 1) ≤ fp ls (ln ls b) := fp_mono ls hab
    rw [fp] at h2
    omega
  by_cases h1 : ln ls s < ln ls t
  · have := key s t hs ht h1; omega
  · by_cases h2 : ln ls t < ln ls s
    · have := key t s ht hs h2; omega
    · have he : ln ls s = ln ls t := by omega
      rcases Nat.lt_trichotomy s t with h3 | h3 | h3
      · have := rk_mono hs he h3; rw [he] at h; omega
      · exact h3
      · have := rk_mono ht he.symm h3; rw [he] at h; omega
end Go.Proofs.YtnnkegpnjedneaaDoor


/-
  Blocks that are known whole, and whole rows by value; rows of integers that came in.
-/
namespace Go.Proofs.YtnnkegpnjedneaaDoor
open Go.RowKit

theorem Touch.setRow {S : Nat → Prop} {a w : World} (h : Touch S a w) (g : Nat) (cs : Array Value) (hp : S g ∨ a.heap.size ≤ g) : Touch S a (w.setRow g cs) :=
  ⟨h.os, h.tape, h.output, Nat.le_trans h.size (by simp), fun k hk hs => (setRow_other w g k cs (fun e => by subst e; rcases hp with hp | hp; exact hs hp; omega)).trans (h.block k hk hs)⟩
theorem Touch.of_below {S : Nat → Prop} {a b : World} (h : Below a.heap.size a b) : Touch S a b := ⟨h.os, h.tape, h.output, h.size, fun k hk _ => h.block k hk⟩
theorem below_drewN {B : Nat} {a w : World} (h : Below B a w) (q : Nat) : Below B a (w.drewN q) := ⟨h.os, h.tape, h.output, h.size, h.block⟩
theorem below_drew {B : Nat} {a w : World} (h : Below B a w) : Below B a w.drew := ⟨h.os, h.tape, h.output, h.size, h.block⟩

/-- Block g is just these cells. -/
def Blk (w : World) (g : Nat) (t : TypeId) (cs : Array Value) : Prop := w.heap[g]? = some (.cells cs t (0, 0))

theorem Blk.lt {w : World} {g : Nat} {t : TypeId} {cs : Array Value} (h : Blk w g t cs) : g < w.heap.size := by
  rcases Nat.lt_or_ge g w.heap.size with hlt | hge
  · exact hlt
  · rw [Blk, Array.getElem?_eq_none hge] at h; cases h
theorem Blk.cell {w : World} {g : Nat} {t : TypeId} {cs : Array Value} (h : Blk w g t cs) (i : Nat) : w.cell? ⟨g, i, none⟩ = cs[i]? := cell_of_row w g i cs t (0, 0) h
theorem Blk.free {w : World} {g : Nat} {t : TypeId} {cs : Array Value} (h : Blk w g t cs) (i : Nat) : w.frozen? ⟨g, i, none⟩ = false := by
  rw [Blk] at h
  simp [World.frozen?, h]
theorem Blk.made (w : World) (t : TypeId) (cs : Array Value) : Blk (w.alloc (.cells cs t)) w.heap.size t cs := by
  show (w.heap.push _)[w.heap.size]? = _
  simp
theorem Blk.touch {S : Nat → Prop} {w w' : World} {g : Nat} {t : TypeId} {cs : Array Value} (h : Blk w g t cs) (ht : Touch S w w') (hs : ¬ S g) : Blk w' g t cs :=
  (ht.block g h.lt hs).trans h
theorem Blk.below {w w' : World} {g : Nat} {t : TypeId} {cs : Array Value} (h : Blk w g t cs) (hb : Below w.heap.size w w') : Blk w' g t cs := (hb.block g h.lt).trans h
theorem Blk.low {w w' : World} {B g : Nat} {t : TypeId} {cs : Array Value} (h : Blk w g t cs) (hb : Below B w w') (hg : g < B) : Blk w' g t cs := (hb.block g hg).trans h
theorem Blk.drewN {w : World} {g : Nat} {t : TypeId} {cs : Array Value} (h : Blk w g t cs) (q : Nat) : Blk (w.drewN q) g t cs := h
theorem Blk.setCell {w : World} {g : Nat} {t : TypeId} {cs : Array Value} (h : Blk w g t cs) (i : Nat) (u : Value) : Blk (w.setCell ⟨g, i, none⟩ u) g t (cs.setIfInBounds i u) := by
  rw [Blk] at h ⊢
  simp [World.setCell, Array.getElem?_modify, h]
theorem Blk.other {w : World} {g g' : Nat} {t : TypeId} {cs : Array Value} (h : Blk w g t cs) (i : Nat) (u : Value) (hne : g' ≠ g) : Blk (w.setCell ⟨g', i, none⟩ u) g t cs :=
  h.touch ((Touch.refl (fun k => k = g') w).setCell ⟨g', i, none⟩ u (.inl rfl)) fun e => hne e.symm
theorem Blk.setRow {w : World} {g : Nat} {t : TypeId} {cs : Array Value} (h : Blk w g t cs) (u : Array Value) : Blk (w.setRow g u) g t u := setRow_heap w g cs u t (0, 0) h

/-- A row of n cells, told by a function. -/
def va (n : Nat) (F : Nat → Value) : Array Value := ((List.range n).map F).toArray
theorem va_size (n : Nat) (F : Nat → Value) : (va n F).size = n := by simp [va]
theorem va_at (n : Nat) (F : Nat → Value) (i : Nat) (h : i < n) : (va n F)[i]? = some (F i) := by simp [va, h]
theorem va_congr {n : Nat} {F G : Nat → Value} (h : ∀ i, i < n → F i = G i) : va n F = va n G := by
  unfold va
  congr 1
  apply List.map_congr_left
  intro i hi
  rw [h i (List.mem_range.1 hi)]
theorem va_set (n : Nat) (F : Nat → Value) (k : Nat) (u : Value) : (va n F).setIfInBounds k u = va n fun i => if i = k then u else F i := by
  apply Array.ext
  · simp [va]
  · intro i h1 h2
    rw [Array.getElem_setIfInBounds (by simpa [va] using h2)]
    simp only [va, List.getElem_toArray, List.getElem_map, List.getElem_range]
    by_cases h : k = i
    · subst h; simp
    · have h' : ¬ i = k := fun e => h e.symm
      simp [h, h']
theorem va_replicate (n : Nat) (u : Value) : Array.replicate n u = va n fun _ => u := by
  apply Array.ext
  · simp [va]
  · intro i h1 h2
    simp [va]
theorem va_made (z : Array Value) (n : Nat) : madeCells z n = va n (fun i => z[i % z.size]!) := by
  apply Array.ext
  · simp [va, madeCells]
  · intro i h1 h2
    simp [va, madeCells]
/-- A row of n integers. -/
abbrev ia (n : Nat) (f : Nat → Nat) : Array Value := va n fun i => .int .i64 (f i : Nat)
theorem ia_one (n : Nat) (f : Nat → Nat) : (ia n f).all (·.oneCell') = true := by
  rw [Array.all_eq_true_iff_forall_mem]
  intro v hv
  simp [ia, va] at hv
  obtain ⟨i, _, rfl⟩ := hv
  rfl
theorem ia_set (n : Nat) (f g : Nat → Nat) (k x : Nat) (h : ∀ i, i < n → g i = if i = k then x else f i) : (ia n f).setIfInBounds k (.int .i64 (x : Nat)) = ia n g := by
  rw [va_set]
  refine va_congr fun i hi => ?_
  rw [h i hi]
  split <;> rfl

/-! ### Whole rows by value, at a plain region's operations -/
section
variable {P : Program} {ops : Array Oper} {rest : List Oper} {o : Oper} {a : Act} {w : World} {Q : Exit → Act → World → Prop}

/-- A variable of a type whose zero value is known. -/
theorem wpList_alloc_z (hgd : o.guard = none) (t : TypeId) (ho : o.op = .alloc t) (z : Array Value) (hz : ∀ W, (zeroValue t).run P W = .ok (.agg z) W)
    (h : ∀ W, Blk W w.heap.size t z → Touch (fun _ => False) w W → W.heap.size = w.heap.size + 1 → wpList P ops Q rest (a.put o.dst (.pointer (some ⟨w.heap.size, 0, none⟩))) W) : wpList P ops Q (o :: rest) a w := by
  have hr : (Instr.alloc t true (.tuple #[])).run P w = .ok (.pointer (some ⟨w.heap.size, 0, none⟩)) (w.alloc (.cells z t)) := by
    simp [Instr.alloc, hz, newVar, newRow, Value.cells, go_sem]
  refine wpList_plain hgd fun K hK => ?_
  unfold Oper.wp execOp
  simp only [ho, Sem.run_bind, Sem.run_pure, hr, Result.andThen_ok]
  exact hK _ _ (h _ (Blk.made w t z) ((Touch.refl _ w).alloc _) (by simp))

/-- A value of many cells goes into a new variable. -/
theorem wpList_box_row (hgd : o.guard = none) (t : TypeId) (x : Operand) (ho : o.op = .box t x) (z : Array Value) (hx : a.eval x = .agg z)
    (h : ∀ W, Blk W w.heap.size t z → Touch (fun _ => False) w W → W.heap.size = w.heap.size + 1 → wpList P ops Q rest (a.put o.dst (.pointer (some ⟨w.heap.size, 0, none⟩))) W) : wpList P ops Q (o :: rest) a w := by
  have hr : (Instr.box t (.agg z)).run P w = .ok (.pointer (some ⟨w.heap.size, 0, none⟩)) (w.alloc (.cells z t)) := by
    simp [Instr.box, newVar, newRow, Value.cells, go_sem]
  refine wpList_plain hgd fun K hK => ?_
  unfold Oper.wp execOp
  simp only [ho, hx, Sem.run_bind, Sem.run_pure, hr, Result.andThen_ok]
  exact hK _ _ (h _ (Blk.made w t z) ((Touch.refl _ w).alloc _) (by simp))

/-- A whole row, read. -/
theorem wpList_load_row (hgd : o.guard = none) (t : TypeId) (x : Operand) (ho : o.op = .load t x) (g : Nat) (hx : a.eval x = .pointer (some ⟨g, 0, none⟩)) (ty : TypeId) (cs : Array Value) (hb : Blk w g ty cs)
    (n : Nat) (e : TypeId) (hu : P.underlying t = some (.array n e)) (hi : (P.info? t).map (·.size) = some cs.size)
    (h : wpList P ops Q rest (a.put o.dst (.agg cs)) w) : wpList P ops Q (o :: rest) a w := by
  have hr : (Instr.loadAt t (.pointer (some ⟨g, 0, none⟩))).run P w = .ok (.agg cs) w := by
    simp only [Instr.loadAt, Instr.sureAddr, Sem.run_bind, Sem.run_pure, Result.andThen]
    exact run_loadVar_row w g ty t cs (0, 0) _ hb hu rfl hi
  refine wpList_plain hgd fun K hK => ?_
  unfold Oper.wp execOp
  simp only [ho, hx, Sem.run_bind, Sem.run_pure, hr, Result.andThen_ok]
  exact hK _ _ h

/-- A whole row, written. -/
theorem wpList_store_row (hgd : o.guard = none) (t : TypeId) (x y : Operand) (ho : o.op = .store t x y) (hd : o.dst = none) (g : Nat) (hx : a.eval x = .pointer (some ⟨g, 0, none⟩)) (cells : Array Value) (hy : a.eval y = .agg cells) (ty : TypeId) (old : Array Value) (hb : Blk w g ty old)
    (hi : (P.info? t).map (·.size) = some cells.size) (hsz : old.size = cells.size) (h1 : cells.all (·.oneCell') = true)
    (h : ∀ W, Blk W g ty cells → Touch (fun k => k = g) w W → W.heap.size = w.heap.size → wpList P ops Q rest a W) : wpList P ops Q (o :: rest) a w := by
  have hr : (Instr.storeAt t (.pointer (some ⟨g, 0, none⟩)) (.agg cells)).run P w = .ok () (w.setRow g cells) := by
    simp only [Instr.storeAt, Instr.sureAddr, Sem.run_bind, Sem.run_pure, Result.andThen]
    exact run_storeVar_row w g ty t old cells hb hi hsz h1
  have h' := h _ (hb.setRow cells) ((Touch.refl _ w).setRow g cells (.inl rfl)) (by simp)
  refine wpList_plain hgd fun K hK => ?_
  unfold Oper.wp execOp
  simp only [ho, hx, hy, Sem.run_bind, Sem.run_pure, hr, Result.andThen_ok]
  refine hK _ _ ?_
  rw [hd]
  exact h'

/-- One element of a row by value. -/
theorem wpList_index_row (hgd : o.guard = none) (t : TypeId) (x y : Operand) (ho : o.op = .index t x y) (cs : Array Value) (hx : a.eval x = .agg cs) (k : IntKind) (i : Nat) (hy : a.eval y = .int k i) (n : Nat) (e : TypeId) (hu : P.underlying t = some (.array n e)) (hin : i < n)
    (hag : ∀ W, (isAgg e).run P W = .ok false W) (hsz : ∀ W, (sizeOf e).run P W = .ok 1 W) (u : Value) (hu' : cs[i]? = some u)
    (h : wpList P ops Q rest (a.put o.dst u) w) : wpList P ops Q (o :: rest) a w := by
  have hr : (Instr.index t (.agg cs) (.int k i)).run P w = .ok u w := by
    simp [Instr.index, run_underlying hu, asIntOf, hin, hsz, part, hag, hu', go_sem]
  refine wpList_plain hgd fun K hK => ?_
  unfold Oper.wp execOp
  simp only [ho, hx, hy, Sem.run_bind, Sem.run_pure, hr, Result.andThen_ok]
  exact hK _ _ h

/-- A value whose build is known. -/
theorem wpList_build_z (hgd : o.guard = none) (t : TypeId) (parts : Array (Nat × Operand)) (ho : o.op = .build t parts) (hp : parts = #[]) (z : Value) (hz : ∀ W, (Instr.build t #[]).run P W = .ok z W)
    (h : wpList P ops Q rest (a.put o.dst z) w) : wpList P ops Q (o :: rest) a w := by
  subst hp
  refine wpList_plain hgd fun K hK => ?_
  unfold Oper.wp execOp
  simp [ho, hz, Result.andThen_ok]
  exact hK _ _ h

/-- A slice that is made: its block is known whole. -/
theorem wpList_make_z (hgd : o.guard = none) (t : TypeId) (l c : Operand) (ho : o.op = .makeSlice t l c) (e : TypeId) (z : Value) (size bytes n : Nat) (hu : P.underlying t = some (.slice e))
    (hin : (P.info? e).map (fun i => (i.zero, i.size, i.bytes)) = some (some z, size, bytes)) (kl kc : IntKind) (L C : Int) (hl : a.eval l = .int kl L) (hc : a.eval c = .int kc C) (hL : L = n) (hC : C = n) (hb : bytes * n ≤ 281474976710656) (h63 : n ≤ 9223372036854775807)
    (h : ∀ W, Blk W w.heap.size e (va (n * size) (fun i => z.cells[i % z.cells.size]!)) → Touch (fun _ => False) w W → W.heap.size = w.heap.size + 1 → wpList P ops Q rest (a.put o.dst (.slice (some ⟨w.heap.size, 0, none⟩) n n)) W) : wpList P ops Q (o :: rest) a w := by
  subst hL hC
  obtain ⟨i, hi, hz0, hz1, hz2⟩ := info_parts hin
  have hr := run_make (P := P) w t e i z hu hi hz0 kl kc n n (by omega) (Int.le_refl _) (by rw [hz2]; omega) (by omega)
  rw [Int.toNat_natCast, hz1, va_made] at hr
  refine wpList_plain hgd fun K hK => ?_
  unfold Oper.wp execOp
  simp only [ho, hl, hc, Sem.run_bind, Sem.run_pure, hr, Result.andThen_ok]
  exact hK _ _ (h _ (Blk.made w e _) ((Touch.refl _ w).alloc _) (by simp))
end

/-- What one cell's result hands back. -/
theorem results_cell {fn : Func} {p : Tmp} {ty : TypeId} (h : fn.results = #[.cell p ty]) (tmps : Array Value) (P : Program) (w : World) (g : Nat) (hg : tmps.getD p undef = .pointer (some ⟨g, 0, none⟩)) (t : TypeId) (cs : Array Value) (hb : Blk w g t cs)
    (n : Nat) (e : TypeId) (hu : P.underlying ty = some (.array n e)) (hi : (P.info? ty).map (·.size) = some cs.size) :
    (results fn tmps).run P w = .ok (.agg cs) w := by
  have hg' : tmps[p]?.getD undef = .pointer (some ⟨g, 0, none⟩) := by rw [← hg, Array.getD_eq_getD_getElem?]
  simp [results, h, hg', asAddr, run_loadVar_row w g t ty cs (0, 0) _ hb hu rfl hi]
/-- What a cell's result and a slot's hand back. -/
theorem results_cell2 {fn : Func} {p q : Tmp} {ty : TypeId} (h : fn.results = #[.cell p ty, .tmp q]) (tmps : Array Value) (P : Program) (w : World) (g : Nat) (hg : tmps.getD p undef = .pointer (some ⟨g, 0, none⟩)) (t : TypeId) (cs : Array Value) (hb : Blk w g t cs)
    (n : Nat) (e : TypeId) (hu : P.underlying ty = some (.array n e)) (hi : (P.info? ty).map (·.size) = some cs.size) (v : Value) (hv : tmps.getD q undef = v) :
    (results fn tmps).run P w = .ok (.tuple #[.agg cs, v]) w := by
  have hg' : tmps[p]?.getD undef = .pointer (some ⟨g, 0, none⟩) := by rw [← hg, Array.getD_eq_getD_getElem?]
  have hv' : tmps[q]?.getD undef = v := by rw [← hv, Array.getD_eq_getD_getElem?]
  simp [results, h, hg', hv', asAddr, run_loadVar_row w g t ty cs (0, 0) _ hb hu rfl hi]

/-! ### Integers that came in -/
/-- A slice's address at which these integers lie. -/
def IS (w : World) (ao : Option Addr) (zs : List Int) : Prop :=
  zs = [] ∨ ∃ b off, ao = some ⟨b, off, none⟩ ∧ ∀ j, j < zs.length → w.cell? ⟨b, off + j, none⟩ = some (.int .i64 (zs.getD j 0))
theorem IS.below {w w' : World} {ao : Option Addr} {zs : List Int} (h : IS w ao zs) (hb : Below w.heap.size w w') : IS w' ao zs := by
  rcases h with h | ⟨b, off, rfl, hc⟩
  · exact .inl h
  · exact .inr ⟨b, off, rfl, fun j hj => by
      have := hc j hj
      exact (hb.cell (World.block_lt_of_cell? w _ this)).trans this⟩
theorem IS.drewN {w : World} {ao : Option Addr} {zs : List Int} (h : IS w ao zs) (n : Nat) : IS (w.drewN n) ao zs := h.below (below_drewN (Below.refl _ _) n)
theorem IS.touch {S : Nat → Prop} {w w' : World} {ao : Option Addr} {zs : List Int} (h : IS w ao zs) (ht : Touch S w w') (hs : ∀ b off, ao = some ⟨b, off, none⟩ → zs ≠ [] → ¬ S b) : IS w' ao zs := by
  rcases h with h | ⟨b, off, rfl, hc⟩
  · exact .inl h
  · by_cases hx : zs = []
    · exact .inl hx
    · refine .inr ⟨b, off, rfl, fun j hj => ?_⟩
      have h1 := hc j hj
      rw [← h1]
      exact World.cell?_of_block (ht.block b (World.block_lt_of_cell? w _ h1) (hs b off rfl hx))
theorem IS.at {w : World} {ao : Option Addr} {zs : List Int} (h : IS w ao zs) {k : Nat} (hk : k < zs.length) : ∃ b off, ao = some ⟨b, off, none⟩ ∧ w.cell? ⟨b, off + k, none⟩ = some (.int .i64 (zs.getD k 0)) := by
  rcases h with h | ⟨b, off, rfl, hc⟩
  · rw [h] at hk; simp at hk
  · exact ⟨b, off, rfl, hc k hk⟩

/-- Lengths as numbers. -/
def nat (zs : List Int) : List Nat := zs.map Int.toNat
theorem nat_len (zs : List Int) : (nat zs).length = zs.length := by simp [nat]
/-- Lengths that are 0 to 15, and not more than 320. -/
structure Vd (zs : List Int) : Prop where
  len : zs.length ≤ 320
  all : ∀ z ∈ zs, 0 ≤ z ∧ z ≤ 15
theorem getD_mem {zs : List Int} {k : Nat} (hk : k < zs.length) : zs.getD k 0 ∈ zs := by
  rw [List.getD_eq_getElem?_getD, List.getElem?_eq_getElem hk]
  exact List.getElem_mem hk
theorem nat_ln (zs : List Int) (k : Nat) : ln (nat zs) k = (zs.getD k 0).toNat := by
  unfold ln nat
  rcases Nat.lt_or_ge k zs.length with h | h <;> simp [List.getD, h]
theorem Vd.ln {zs : List Int} (h : Vd zs) {k : Nat} (hk : k < zs.length) : zs.getD k 0 = (YtnnkegpnjedneaaDoor.ln (nat zs) k : Nat) ∧ YtnnkegpnjedneaaDoor.ln (nat zs) k ≤ 15 := by
  have := h.all _ (getD_mem hk)
  rw [nat_ln]
  omega
end Go.Proofs.YtnnkegpnjedneaaDoor

