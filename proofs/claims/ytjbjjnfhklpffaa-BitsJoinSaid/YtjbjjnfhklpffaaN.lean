/-
  Two writers at once.
-/
import Derived.Test.YtjbjjnfhklpffaaL
namespace Go.Proofs.Ytjbjjnfhklpffaa
open Go.RowKit

/-- Two writers, whose blocks are not the same. -/
def Two (w w1 : World) (base pa Na na pb Nb nb : Nat) : Prop :=
  ∃ ga gb, Wr w1 base pa ga Na na ∧ Wr w1 base pb gb Nb nb ∧ (∀ k, Foot pa ga k → ¬ Foot pb gb k) ∧ Touch (U base) w w1

theorem Two.symm {w w1 : World} {base pa Na na pb Nb nb : Nat} (h : Two w w1 base pa Na na pb Nb nb) : Two w w1 base pb Nb nb pa Na na := by
  obtain ⟨ga, gb, ha, hb, hd, ht⟩ := h
  exact ⟨gb, ga, hb, ha, fun k h1 h2 => hd k h2 h1, ht⟩

theorem Two.a {w w1 : World} {base pa Na na pb Nb nb : Nat} (h : Two w w1 base pa Na na pb Nb nb) : WrT w w1 base pa Na na := by
  obtain ⟨ga, gb, ha, hb, hd, ht⟩ := h
  exact ⟨ga, ha, ht⟩

theorem Two.made {w w1 : World} {base pa N n : Nat} (h : WrT w w1 base pa N n) (hb : base ≤ w1.heap.size) :
    Calls Try.prog 20 #[] w1 fun e w2 => ∃ pb, e = .returned (.pointer (some ⟨pb, 0, none⟩)) ∧ Two w w2 base pa N n pb 0 0 := by
  obtain ⟨ga, ha, ht⟩ := h
  refine (newWriter_any w1).mono ?_
  rintro e w2 ⟨p, g, rfl, ho, ht2⟩
  refine ⟨p, rfl, ga, g, ha.touch ht2 (fun _ _ h => h), ⟨[], ⟨?_, by have := ho.hp; omega, ho.hb, ho.ht⟩, WI.nil, rfl⟩, fun k h1 h2 => ?_, ht.trans (ht2.mono fun _ h => h.elim)⟩
  · obtain ⟨sv, h1, h2, h3⟩ := ho.blk
    exact ⟨sv, h1, h2, own_base h3 hb⟩
  · have a1 := (ha.foot h1).2
    have a2 := (ho.foot_lt h2).1
    omega

theorem Two.put {w w1 : World} {base pa Na na pb Nb nb : Nat} (h : Two w w1 base pa Na na pb Nb nb) (hn : na ≤ 7000000000) (v k X N' n' : Nat) (hv : v < 4294967296) (hk : k ≤ 32) (hX : v % 2 ^ k = X) (hN : Na + X * 2 ^ na = N') (hn' : na + k = n') :
    Calls Try.prog 21 #[.pointer (some ⟨pa, 0, none⟩), .int .u32 v, .int .i64 k] w1 fun e w' => e = .returned (.tuple #[]) ∧ Two w w' base pa N' n' pb Nb nb := by
  subst hN; subst hn'
  obtain ⟨ga, gb, ha, hb, hd, ht⟩ := h
  refine (ha.put hn v k X hv hk hX).mono ?_
  rintro e w' ⟨rfl, g', hw', ht', hr⟩
  refine ⟨rfl, g', gb, hw', hb.touch ht' (fun k h1 h2 => hd k h2 h1), fun k h1 h2 => ?_, ht.trans (ht'.mono fun k hk => (ha.foot hk).1)⟩
  rcases h1 with rfl | h1
  · exact hd _ (.inl rfl) h2
  · rcases hr k h1 with h3 | h3
    · exact hd _ (.inr h3) h2
    · have := (hb.foot h2).2; omega

def OutTwo (w w1 : World) (base pa Na na pb Nb nb : Nat) (e : Ending) (w2 : World) : Prop :=
  ∃ bs a c, e = .returned (.slice a bs.length c) ∧ Bs bs ∧ WI bs na ∧ num bs = Na ∧ BySl w2 (.slice a bs.length c) bs ∧ Two w w2 base pa Na na pb Nb nb ∧ Touch (fun _ => False) w1 w2

theorem Two.out {w w1 : World} {base pa Na na pb Nb nb : Nat} (h : Two w w1 base pa Na na pb Nb nb) (hn : na ≤ 7000000000) :
    Calls Try.prog 28 #[.pointer (some ⟨pa, 0, none⟩)] w1 (OutTwo w w1 base pa Na na pb Nb nb) := by
  obtain ⟨ga, gb, ha, hb, hd, ht⟩ := h
  have hT : WrT w w1 base pa Na na := ⟨ga, ha, ht⟩
  refine (hT.out hn).mono ?_
  rintro e w2 ⟨bs, a, c, g, he, h1, h2, h3, hown, _, _, hU, ht2⟩
  exact ⟨bs, a, c, he, h1, h2, h3, BySl.own hown, ⟨ga, gb, ha.touch ht2 (fun _ _ h => h), hb.touch ht2 (fun _ _ h => h), hd, hU⟩, ht2⟩

theorem Two.drewN {w w1 : World} {base pa Na na pb Nb nb : Nat} (h : Two w w1 base pa Na na pb Nb nb) (k : Nat) : Two w (w1.drewN k) base pa Na na pb Nb nb := by
  obtain ⟨ga, gb, ha, hb, hd, ht⟩ := h
  have h0 := (Touch.refl (fun _ => False) w1).drewN k
  exact ⟨ga, gb, ha.touch h0 (fun _ _ h => h), hb.touch h0 (fun _ _ h => h), hd, ht.drewN k⟩

theorem Two.same {w w1 : World} {base pa pb N n : Nat} {xs ys : List Nat} (hx : WI xs n) (hy : WI ys n) (bx : Bs xs) (by_ : Bs ys) (nx : num xs = N) (ny : num ys = N) (_h : Two w w1 base pa N n pb N n) : xs = ys :=
  hx.same hy bx by_ (by rw [nx, ny])

/-! numbers -/
theorem join_eq (v n cut : Nat) (h : cut ≤ n) : v % 2 ^ n = v % 2 ^ cut + v / 2 ^ cut % 2 ^ (n - cut) * 2 ^ cut := by
  have e : n = cut + (n - cut) := by omega
  conv => lhs; rw [e, Nat.pow_add, Nat.mod_mul]
  rw [Nat.mul_comm]

theorem join_num (v n cut f : Nat) (h : cut ≤ n) : 341 % 2 ^ f + v % 2 ^ cut * 2 ^ f + v / 2 ^ cut % 2 ^ (n - cut) * 2 ^ (f + cut) = 341 % 2 ^ f + v % 2 ^ n * 2 ^ f := by
  rw [join_eq v n cut h, Nat.add_mul, Nat.mul_assoc, ← Nat.pow_add, Nat.add_comm cut f]
  omega

theorem join_or (v n cut X2 X3 : Nat) (hv : v < 4294967296) (h : cut ≤ n) (h2 : v % 2 ^ cut = X2) (h3 : v / 2 ^ cut % 2 ^ (n - cut) = X3) :
    bits BinOp.or IntKind.u64 (IntKind.u64.wrap (X2 : Int)) (IntKind.u64.wrap (IntKind.u64.wrap (X3 : Int) * 2 ^ cut)) = ((v % 2 ^ n : Nat) : Int) := by
  have hj := join_eq v n cut h
  rw [h2, h3] at hj
  have hle := Nat.mod_le v (2 ^ n)
  have hlt : X2 < 2 ^ cut := by rw [← h2]; exact Nat.mod_lt _ (Nat.two_pow_pos cut)
  have hx3 : X3 ≤ X3 * 2 ^ cut := Nat.le_mul_of_pos_right _ (Nat.two_pow_pos cut)
  have e2 : IntKind.u64.wrap (X2 : Int) = (X2 : Int) := by rw [IntKind.wrap_u64]; omega
  have e3 : IntKind.u64.wrap (X3 : Int) = (X3 : Int) := by rw [IntKind.wrap_u64]; omega
  have e4 : IntKind.u64.wrap ((X3 : Int) * 2 ^ cut) = ((X3 * 2 ^ cut : Nat) : Int) := by
    rw [IntKind.wrap_u64, show (X3 : Int) * 2 ^ cut = ((X3 * 2 ^ cut : Nat) : Int) from by simp]
    omega
  rw [e2, e3, e4, u64_or_nat _ _ (by omega) (by omega), or_add _ _ _ hlt, hj]

theorem join_hi (A X f : Nat) (hA : A < 2 ^ f) : (A + X * 2 ^ f) / 2 ^ f = X := by
  rw [Nat.add_mul_div_right _ _ (Nat.two_pow_pos f), Nat.div_eq_of_lt hA, Nat.zero_add]

theorem join_pk1 {bs : List Nat} {v n cut f : Nat} (h : cut ≤ n) (hn : num bs = 341 % 2 ^ f + v % 2 ^ n * 2 ^ f) : pk bs f cut = v % 2 ^ cut := by
  unfold pk
  rw [hn, join_hi _ _ _ (Nat.mod_lt _ (Nat.two_pow_pos f)), Nat.mod_mod_of_dvd _ (Nat.pow_dvd_pow 2 h)]

theorem join_pk2 {bs : List Nat} {v n cut f : Nat} (h : cut ≤ n) (hn : num bs = 341 % 2 ^ f + v % 2 ^ n * 2 ^ f) : pk bs (f + cut) (n - cut) = v / 2 ^ cut % 2 ^ (n - cut) := by
  unfold pk
  rw [hn, Nat.pow_add, ← Nat.div_div_eq_div_mul, join_hi _ _ _ (Nat.mod_lt _ (Nat.two_pow_pos f)), join_eq v n cut h, Nat.add_mul_div_right _ _ (Nat.two_pow_pos cut), Nat.div_eq_of_lt (Nat.mod_lt _ (Nat.two_pow_pos cut)), Nat.zero_add, Nat.mod_mod]

end Go.Proofs.Ytjbjjnfhklpffaa
