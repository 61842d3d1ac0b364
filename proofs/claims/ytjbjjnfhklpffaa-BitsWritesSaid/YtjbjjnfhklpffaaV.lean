/-
  What the reference answers for a look at bits; a reader told above a block number.
-/
import Derived.Test.YtjbjjnfhklpffaaT
namespace Go.Proofs.Ytjbjjnfhklpffaa
open Go.RowKit

/-- The bit k of bytes. -/
theorem num_bit {bs : List Nat} (hb : Bs bs) (k : Nat) (_h : k / 8 < bs.length) : byt bs (k / 8) / 2 ^ (k % 8) % 2 = num bs / 2 ^ k % 2 := by
  unfold byt
  rw [num_byte hb, pow256]
  have e : k = 8 * (k / 8) + k % 8 := by omega
  conv => rhs; rw [e, Nat.pow_add, ← Nat.div_div_eq_div_mul]
  generalize num bs / 2 ^ (8 * (k / 8)) = Y
  have h8 : (256 : Nat) = 2 ^ 8 := rfl
  rw [h8]
  have hk : k % 8 < 8 := by omega
  generalize k % 8 = r at hk
  have hj : Y % 2 ^ 8 / 2 ^ r % 2 ^ 1 = Y / 2 ^ r % 2 ^ 1 := by
    apply Nat.eq_of_testBit_eq
    intro i
    simp only [Nat.testBit_mod_two_pow, Nat.testBit_div_two_pow]
    by_cases hi : i < 1
    · have : i + r < 8 := by omega
      simp [hi, this]
    · simp [hi]
  simpa using hj

theorem num_bit_out {bs : List Nat} (hb : Bs bs) (k : Nat) (h : bs.length ≤ k / 8) : num bs / 2 ^ k % 2 = 0 := by
  have h1 := num_lt hb
  rw [pow256] at h1
  have h2 : 2 ^ (8 * bs.length) ≤ 2 ^ k := Nat.pow_le_pow_right (by omega) (by omega)
  rw [Nat.div_eq_of_lt (by omega)]

theorem pk_succ (bs : List Nat) (at_ i : Nat) : pk bs at_ (i + 1) = pk bs at_ i + num bs / 2 ^ (at_ + i) % 2 * 2 ^ i := by
  unfold pk
  rw [Nat.pow_succ, Nat.mod_mul, Nat.div_div_eq_div_mul, ← Nat.pow_add, Nat.mul_comm (2 ^ i)]

theorem pk_lt (bs : List Nat) (at_ i : Nat) : pk bs at_ i < 2 ^ i := Nat.mod_lt _ (Nat.two_pow_pos i)

theorem get_or (bs : List Nat) (at_ i : Nat) (hi : i < 32) (h : num bs / 2 ^ (at_ + i) % 2 = 1) :
    bits BinOp.or IntKind.u32 (pk bs at_ i : Int) (2 ^ i % 4294967296) = ((pk bs at_ (i + 1) : Nat) : Int) := by
  have h1 := pk_lt bs at_ i
  have h2 : 2 ^ i ≤ 2 ^ 31 := Nat.pow_le_pow_right (by omega) (by omega)
  have e : ((2 : Int) ^ i % 4294967296) = ((2 ^ i : Nat) : Int) := by
    rw [show (2 : Int) ^ i = ((2 ^ i : Nat) : Int) from by simp]
    omega
  have ho := or_add i (pk bs at_ i) 1 h1
  rw [Nat.one_mul] at ho
  rw [e, u32_or_nat _ _ (by omega) (by omega), ho, pk_succ, h, Nat.one_mul]

theorem and1 (B r : Nat) (hB : B < 256) : bits BinOp.and IntKind.u8 ((B : Int) / 2 ^ r) 1 = ((B / 2 ^ r % 2 : Nat) : Int) := by
  have h1 : B / 2 ^ r ≤ B := Nat.div_le_self _ _
  rw [show ((B : Int) / 2 ^ r) = ((B / 2 ^ r : Nat) : Int) from by simp, show (1 : Int) = ((1 : Nat) : Int) from rfl, u8_and_nat _ _ (by omega) (by omega), nat_mask1]

theorem get_none (a0 : Option Addr) (cap : Nat) (at_ n : Nat) (w : World) (hn : n ≤ 32) (ha : at_ ≤ 8000) :
    Calls Try.prog 12 #[.slice a0 0 cap, .int .i64 at_, .int .i64 n] w fun e w' => e = .returned (.int .u32 ((pk [] at_ n : Nat) : Int)) ∧ w = w' := by
  have hp : ∀ i, pk [] at_ i = 0 := fun i => by simp [pk, num]
  rw [hp]
  clear hp
  go_enter Try.func12, Try.ntmps12
  go_wp2
  go_loop [7, 8, 9] (fun o i _ => ∃ k : Nat, k ≤ n ∧ i = .int .i64 k ∧ o = .int .u32 0) (fun _ i _ => n - (intOf i).toNat)
  case atStart => exact ⟨0, Nat.zero_le _, rfl, rfl⟩
  case round =>
    obtain ⟨k, hk, rfl, rfl⟩ := hrel
    by_cases hlt : k < n
    · go_wp2
      go_round
      case rel => exact ⟨k + 1, by omega, by go_num, rfl⟩
      case measure => simp [intOf]; omega
    · go_wp2
      go_ret
      exact ⟨rfl, rfl⟩

theorem get_some (b off cap len at_ n : Nat) (bs : List Nat) (w : World) (hb : Bs bs) (hbl : bs.length = len) (_hl : len ≤ 1000) (hn : n ≤ 32) (ha : at_ ≤ 8000)
    (hc : ∀ j, j < len → w.cell? ⟨b, off + j, none⟩ = some (.int .u8 (byt bs j))) :
    Calls Try.prog 12 #[.slice (some ⟨b, off, none⟩) len cap, .int .i64 at_, .int .i64 n] w fun e w' => e = .returned (.int .u32 ((pk bs at_ n : Nat) : Int)) ∧ w = w' := by
  have HB := Lib.hid hb
  have HBL := Lib.hid hbl
  have HC := Lib.hid hc
  clear hb hbl hc
  go_enter Try.func12, Try.ntmps12
  go_wp2
  go_loop [7, 8, 9] (fun o i _ => ∃ k : Nat, k ≤ n ∧ i = .int .i64 k ∧ o = .int .u32 (pk bs at_ k : Nat)) (fun _ i _ => n - (intOf i).toNat)
  case atStart => exact ⟨0, Nat.zero_le _, rfl, by simp [pk, Nat.mod_one]⟩
  case round =>
    obtain ⟨k, hk, rfl, rfl⟩ := hrel
    by_cases hlt : k < n
    · have hsucc := pk_succ bs at_ k
      by_cases hin : (at_ + k) / 8 < len
      · have hcell := HC.out ((at_ + k) / 8) hin
        have hbit := num_bit HB.out (at_ + k) (by rw [HBL.out]; exact hin)
        have hbb : byt bs ((at_ + k) / 8) < 256 := HB.out.at _
        have hand := and1 (byt bs ((at_ + k) / 8)) ((at_ + k) % 8) hbb
        rw [hbit] at hand
        by_cases hone : num bs / 2 ^ (at_ + k) % 2 = 1
        · have HOR := Lib.hid (get_or bs at_ k (by omega) hone)
          have htst : (bits BinOp.and IntKind.u8 ((byt bs ((at_ + k) / 8) : Int) / 2 ^ ((at_ + k) % 8)) 1 == 1) = true := by rw [hand, hone]; rfl
          clear hsucc hbit hone hand hbb
          go_wp2
          go_round
          case rel => exact ⟨k + 1, by omega, by go_num, by rw [HOR.out]⟩
          case measure => simp [intOf]; omega
        · have hz : num bs / 2 ^ (at_ + k) % 2 = 0 := by omega
          have htst : (bits BinOp.and IntKind.u8 ((byt bs ((at_ + k) / 8) : Int) / 2 ^ ((at_ + k) % 8)) 1 == 1) = false := by rw [hand, hz]; rfl
          have HS := Lib.hid (show pk bs at_ (k + 1) = pk bs at_ k by rw [hsucc, hz]; simp)
          clear hsucc hbit hone hand hbb hz
          go_wp2
          go_round
          case rel => exact ⟨k + 1, by omega, by go_num, by rw [HS.out]⟩
          case measure => simp [intOf]; omega
      · have hz := num_bit_out HB.out (at_ + k) (by rw [HBL.out]; omega)
        have HS := Lib.hid (show pk bs at_ (k + 1) = pk bs at_ k by rw [hsucc, hz]; simp)
        clear hsucc hz
        go_wp2
        go_round
        case rel => exact ⟨k + 1, by omega, by go_num, by rw [HS.out]⟩
        case measure => simp [intOf]; omega
    · have hkn : k = n := by omega
      subst hkn
      go_wp2
      go_ret
      exact ⟨rfl, rfl⟩

theorem get_any {w : World} {v : Value} {bs : List Nat} (h : BySl w v bs) (hb : Bs bs) (hl : bs.length ≤ 1000) (at_ n : Nat) (hn : n ≤ 32) (ha : at_ ≤ 8000) (V : Nat) (hV : pk bs at_ n = V) :
    Calls Try.prog 12 #[v, .int .i64 at_, .int .i64 n] w fun e w' => e = .returned (.int .u32 (V : Nat)) ∧ w = w' := by
  subst hV
  by_cases h0 : bs.length = 0
  · obtain ⟨a, c, rfl⟩ := h.shape
    have hx := List.eq_nil_of_length_eq_zero h0
    subst hx
    exact get_none a c at_ n w hn ha
  · obtain ⟨b, off, c, rfl, _, hc⟩ := h.at (by omega)
    exact get_some b off c bs.length at_ n bs w hb rfl hl hn ha hc

/-! ### CopyBytes -/
theorem copy_any {w : World} {sv : Value} {xs : List Nat} (h : BySl w sv xs) (hl : xs.length ≤ 1000000) : Calls Try.prog 9 #[sv] w (Made w w.heap.size xs) := by
  have H := Lib.hid h
  clear h
  go_enter Try.func9, Try.ntmps9
  go_wp2_with (at_builtin; refine wpList_append_x rfl (.tmp 5) (.tmp 6) rfl w.heap.size (.slice (some ⟨w.heap.size, 0, none⟩) 0 0) sv [] xs rfl rfl (own_empty w) (H.out.touch ((Touch.refl (fun _ => False) w).alloc _) (fun _ _ h => h)) (by simp) (by simp; omega) ?c1)
  case c1 =>
    intro a c w1 hA
    have HA := Lib.hid hA
    clear hA
    go_wp2
    go_ret
    refine ⟨a, c, by simp, HA.out.own, fun k hk => (HA.out.own.lt k hk).1, ((Touch.refl _ w).alloc _).trans' HA.out.touch fun k hk hlt => ?_⟩
    simp [Value.ownBlock] at hk
    omega

/-! ### The reader, above a block number -/
def RdB (B : Nat) (w0 w1 : World) (p : Nat) (bs : List Nat) (at_ : Nat) : Prop := ∃ g, Ob w1 B 59 p g bs at_ ∧ Touch (U B) w0 w1

theorem RdB.moved {B : Nat} {w0 w1 w2 : World} {p : Nat} {g : Option Nat} {bs : List Nat} {m : Nat} (hp : B ≤ p) (ht : Touch (U B) w0 w1) (h : Moved w1 B 59 p g bs m w2) : RdB B w0 w2 p bs m :=
  ⟨g, h.1, ht.trans (h.2.mono fun k hk => by subst hk; exact hp)⟩

theorem RdB.drewN {B : Nat} {w0 w1 : World} {p : Nat} {bs : List Nat} {m : Nat} (h : RdB B w0 w1 p bs m) (n : Nat) : RdB B w0 (w1.drewN n) p bs m := by
  obtain ⟨g, ho, ht⟩ := h
  exact ⟨g, ho.drewN n, ht.drewN n⟩

theorem RdB.peek {B : Nat} {w0 w1 : World} {p : Nat} {bs : List Nat} {at_ : Nat} (h : RdB B w0 w1 p bs at_) (hl : bs.length ≤ 1000000000) (ha : at_ ≤ 8 * bs.length) (n V : Nat) (hn : n ≤ 32) (hV : pk bs at_ n = V) :
    Calls Try.prog 19 #[.pointer (some ⟨p, 0, none⟩), .int .i64 n] w1 fun e w' => e = .returned (.int .u32 V) ∧ w1 = w' := by
  subst hV
  obtain ⟨g, ho, ht⟩ := h
  exact ho.peek hl ha n hn

theorem RdB.skip {B : Nat} {w0 w1 : World} {p : Nat} {bs : List Nat} {at_ : Nat} (h : RdB B w0 w1 p bs at_) (hl : bs.length ≤ 1000000000) (n : Nat) (hn : at_ + n ≤ 8 * bs.length) :
    Calls Try.prog 13 #[.pointer (some ⟨p, 0, none⟩), .int .i64 n] w1 fun e w' => e = .returned (.bool true) ∧ RdB B w0 w' p bs (at_ + n) := by
  obtain ⟨g, ho, ht⟩ := h
  exact (ho.skip_yes hl n hn).mono fun _ _ ⟨he, hm⟩ => ⟨he, RdB.moved ho.hp ht hm⟩

theorem RdB.bits {B : Nat} {w0 w1 : World} {p : Nat} {bs : List Nat} {at_ : Nat} (h : RdB B w0 w1 p bs at_) (hl : bs.length ≤ 1000000000) (n V : Nat) (hn32 : n ≤ 32) (hn : at_ + n ≤ 8 * bs.length) (hV : pk bs at_ n = V) :
    Calls Try.prog 11 #[.pointer (some ⟨p, 0, none⟩), .int .i64 n] w1 fun e w' => e = .returned (.tuple #[.int .u32 V, .bool true]) ∧ RdB B w0 w' p bs (at_ + n) := by
  subst hV
  obtain ⟨g, ho, ht⟩ := h
  exact (ho.bits_yes hl n hn32 hn).mono fun _ _ ⟨he, hm⟩ => ⟨he, RdB.moved ho.hp ht hm⟩

theorem RdB.bits_no {B : Nat} {w0 w1 : World} {p : Nat} {bs : List Nat} {at_ : Nat} (h : RdB B w0 w1 p bs at_) (hl : bs.length ≤ 1000000000) (ha : at_ ≤ 8 * bs.length) (n : Int) (hn : n < 0 ∨ 32 < n ∨ 8 * (bs.length : Int) - at_ < n) :
    Calls Try.prog 11 #[.pointer (some ⟨p, 0, none⟩), .int .i64 n] w1 fun e w' => e = .returned (.tuple #[.int .u32 0, .bool false]) ∧ ∃ nq, w' = w1.drewN nq := by
  obtain ⟨g, ho, ht⟩ := h
  exact ho.bits_no hl ha n hn

theorem RdB.skip_no {B : Nat} {w0 w1 : World} {p : Nat} {bs : List Nat} {at_ : Nat} (h : RdB B w0 w1 p bs at_) (hl : bs.length ≤ 1000000000) (ha : at_ ≤ 8 * bs.length) (n : Int) (hn : n < 0 ∨ 8 * (bs.length : Int) - at_ < n) :
    Calls Try.prog 13 #[.pointer (some ⟨p, 0, none⟩), .int .i64 n] w1 fun e w' => e = .returned (.bool false) ∧ ∃ nq, w' = w1.drewN nq := by
  obtain ⟨g, ho, ht⟩ := h
  exact ho.skip_no hl ha n hn

theorem RdB.align {B : Nat} {w0 w1 : World} {p : Nat} {bs : List Nat} {at_ : Nat} (h : RdB B w0 w1 p bs at_) (ha : at_ ≤ 10000000000) :
    Calls Try.prog 14 #[.pointer (some ⟨p, 0, none⟩)] w1 fun e w' => e = .returned (.tuple #[]) ∧ RdB B w0 w' p bs (up8 at_) := by
  obtain ⟨g, ho, ht⟩ := h
  exact (ho.ralign ha).mono fun _ _ ⟨he, hm⟩ => ⟨he, RdB.moved ho.hp ht hm⟩

theorem RdB.at {B : Nat} {w0 w1 : World} {p : Nat} {bs : List Nat} {at_ : Nat} (h : RdB B w0 w1 p bs at_) :
    Calls Try.prog 17 #[.pointer (some ⟨p, 0, none⟩)] w1 fun e w' => e = .returned (.int .i64 at_) ∧ w1 = w' := by
  obtain ⟨g, ho, ht⟩ := h
  exact ho.at

theorem RdB.left {B : Nat} {w0 w1 : World} {p : Nat} {bs : List Nat} {at_ : Nat} (h : RdB B w0 w1 p bs at_) (hl : bs.length ≤ 1000000000) (ha : at_ ≤ 8 * bs.length) :
    Calls Try.prog 18 #[.pointer (some ⟨p, 0, none⟩)] w1 fun e w' => e = .returned (.int .i64 (8 * bs.length - at_)) ∧ ∃ nq, w' = w1.drewN nq := by
  obtain ⟨g, ho, ht⟩ := h
  exact ho.left hl ha

/-- What Bytes answers. -/
def BytesOfB (B : Nat) (w0 w1 : World) (p : Nat) (bs : List Nat) (m : Nat) (xs : List Nat) (e : Ending) (w2 : World) : Prop :=
  ∃ a c, e = .returned (.tuple #[.slice a xs.length c, .bool true]) ∧ w2.ownsRow w1.heap.size 5 1 (.slice a xs.length c) xs.length (u8s xs) ∧ RdB B w0 w2 p bs m

theorem RdB.bytes {B : Nat} {w0 w1 : World} {p : Nat} {bs : List Nat} {at_ : Nat} (h : RdB B w0 w1 p bs at_) (hl : bs.length ≤ 1000000000) (ha : at_ ≤ 8 * bs.length) (n m : Nat) (xs : List Nat) (hn : (at_ + 7) / 8 + n ≤ bs.length) (hm : ((at_ + 7) / 8 + n) * 8 = m) (hx : (bs.drop ((at_ + 7) / 8)).take n = xs) :
    Calls Try.prog 15 #[.pointer (some ⟨p, 0, none⟩), .int .i64 n] w1 (BytesOfB B w0 w1 p bs m xs) := by
  subst hm; subst hx
  obtain ⟨g, ho, ht⟩ := h
  refine (ho.bytes_yes hl ha n hn).mono ?_
  rintro e w2 ⟨a, c, he, hown, hlow, ho2, ht2⟩
  exact ⟨a, c, he, hown, RdB.moved ho.hp ht ⟨ho2, ht2⟩⟩

theorem RdB.bytes_no {B : Nat} {w0 w1 : World} {p : Nat} {bs : List Nat} {at_ : Nat} (h : RdB B w0 w1 p bs at_) (hl : bs.length ≤ 1000000000) (ha : at_ ≤ 8 * bs.length) (n : Int) (hn : n < 0 ∨ (bs.length : Int) - ((at_ : Int) + 7) / 8 < n) :
    Calls Try.prog 15 #[.pointer (some ⟨p, 0, none⟩), .int .i64 n] w1 fun e w' => e = .returned (.tuple #[.slice none 0 0, .bool false]) ∧ w1 = w' := by
  obtain ⟨g, ho, ht⟩ := h
  exact ho.bytes_no hl ha n hn


theorem RdB.arg {B : Nat} {w0 w1 : World} {p : Nat} {bs : List Nat} {m : Nat} {sv : Value} {xs : List Nat} (h : RdB B w0 w1 p bs m) (hb : BySl w0 sv xs) (hk : ∀ k, sv.ownBlock = some k → k < B) : BySl w1 sv xs := by
  obtain ⟨g, _, ht⟩ := h
  exact hb.touch ht fun k h1 h2 => by have := hk k h1; unfold U at h2; omega

theorem RdB.cell {B : Nat} {w0 w1 : World} {p : Nat} {bs : List Nat} {m : Nat} {A : Addr} {u : Value} (h : RdB B w0 w1 p bs m) (hc : w0.cell? A = some u) (hk : A.block < B) : w1.cell? A = some u := by
  obtain ⟨g, _, ht⟩ := h
  rw [World.cell?_of_block (w := w0) (ht.block A.block (World.block_lt_of_cell? w0 _ hc) (by unfold U; omega))]
  exact hc

theorem RdB.touch {B : Nat} {w0 w1 : World} {p : Nat} {bs : List Nat} {m : Nat} (h : RdB B w0 w1 p bs m) : Touch (U B) w0 w1 := by
  obtain ⟨g, _, ht⟩ := h; exact ht

/-- Behind each store into the copy that was handed in. -/
def OwnLoop (B : Nat) (w wr : World) (pr : Nat) (bs : List Nat) (sv : Value) : Prop :=
  ∃ g xs, Ob wr B 59 pr g bs 0 ∧ Touch (U B) w wr ∧ Bs xs ∧ xs.length = bs.length ∧ wr.ownsRow B 5 1 sv bs.length (u8s xs) ∧ ∀ k, sv.ownBlock = some k → ¬ Foot pr g k

theorem OwnLoop.start {B : Nat} {w w2 w3 : World} {pr : Nat} {g : Option Nat} {bs : List Nat} {sv : Value} (hB : B ≤ w2.heap.size) (ht : Touch (U B) w w2) (hb : Bs bs) (hown : w2.ownsRow B 5 1 sv bs.length (u8s bs)) (ho : Ob w3 w2.heap.size 59 pr g bs 0) (ht3 : Touch (fun _ => False) w2 w3) : OwnLoop B w w3 pr bs sv := by
  refine ⟨g, bs, ⟨?_, by have := ho.hp; omega, ho.hb, ho.ht⟩, ht.trans (ht3.mono fun _ h => h.elim), hb, rfl, ownsRow_touch hown ht3 (fun _ _ h => h), fun k hk hf => ?_⟩
  · obtain ⟨sv', h1, h2, h3⟩ := ho.blk
    exact ⟨sv', h1, h2, own_base h3 hB⟩
  · have a1 := (hown.lt k hk).2
    have a2 := (ho.foot_lt hf).1
    omega

theorem OwnLoop.store {B : Nat} {w wr : World} {pr g0 c : Nat} {bs : List Nat} (h : OwnLoop B w wr pr bs (.slice (some ⟨g0, 0, none⟩) bs.length c)) (i y : Nat) (hy : y < 256) {u : Int} (hu : u = (y : Int)) :
    OwnLoop B w (wr.setCell ⟨g0, i, none⟩ (.int .u8 u)) pr bs (.slice (some ⟨g0, 0, none⟩) bs.length c) := by
  subst hu
  obtain ⟨g, xs, ho, ht, hb, hl, hown, hd⟩ := h
  have hg := hown.lt g0 (by simp [Value.ownBlock])
  have hT : Touch (fun k => k = g0) wr (wr.setCell ⟨g0, i, none⟩ (.int .u8 (y : Int))) := (Touch.refl _ wr).setCell _ _ (.inl rfl)
  have hst := (hown.stored i (.int .u8 (y : Int))).1
  have hset : (u8s xs).set i (.int .u8 (y : Int)) = u8s (xs.set i y) := by unfold u8s; rw [List.map_set]
  rw [hset] at hst
  exact ⟨g, xs.set i y, ho.touch hT (fun k hk e => by subst e; exact hd _ (by simp [Value.ownBlock]) hk), ht.trans (hT.mono fun k hk => by subst hk; exact hg.1), hb.set _ hy, by rw [List.length_set, hl], hst, hd⟩

theorem OwnLoop.cell {B : Nat} {w wr : World} {pr g0 c : Nat} {bs : List Nat} (h : OwnLoop B w wr pr bs (.slice (some ⟨g0, 0, none⟩) bs.length c)) (i : Nat) (hi : i < bs.length) :
    ∃ y : Nat, y < 256 ∧ wr.cell? ⟨g0, i, none⟩ = some (.int .u8 y) ∧ wr.frozen? ⟨g0, i, none⟩ = false := by
  obtain ⟨g, xs, ho, ht, hb, hl, hown, hd⟩ := h
  refine ⟨byt xs i, hb.at i, ?_, hown.frozenAt i⟩
  rw [← hl] at hown
  exact row_cell hown i (by omega)

theorem OwnLoop.rd {B : Nat} {w wr : World} {pr : Nat} {bs : List Nat} {sv : Value} (h : OwnLoop B w wr pr bs sv) : RdB B w wr pr bs 0 := by
  obtain ⟨g, xs, ho, ht, _⟩ := h
  exact ⟨g, ho, ht⟩

theorem OwnLoop.form {B : Nat} {w wr : World} {pr n c : Nat} {bs : List Nat} {a : Option Addr} (h : OwnLoop B w wr pr bs (.slice a n c)) (hp : 0 < bs.length) : ∃ g0, a = some ⟨g0, 0, none⟩ := by
  obtain ⟨g, xs, ho, ht, hb, hl, hown, hd⟩ := h
  rcases hown.2 with ⟨_, h0⟩ | ⟨g0, cap, cur, hh, _⟩
  · omega
  · exact ⟨g0, by simp at hh; exact hh.1⟩

end Go.Proofs.Ytjbjjnfhklpffaa
