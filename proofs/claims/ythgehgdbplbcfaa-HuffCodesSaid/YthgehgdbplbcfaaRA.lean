/-
  The reference's Room; integers copied, and compared.
-/
import Derived.Test.YthgehgdbplbcfaaT
import Derived.Test.YthgehgdbplbcfaaG
namespace Go.Proofs.Ythgehgdbplbcfaa
open Go.RowKit

/-- The room, symbol by symbol. -/
def part1 (x : Nat) : Nat := if x = 0 then 0 else 2 ^ (15 - x)
def rsum (l : List Nat) : Nat := (l.map part1).sum
theorem rsum_app (l : List Nat) (x : Nat) : rsum (l ++ [x]) = rsum l + part1 x := by simp [rsum]
theorem cn_app (l : List Nat) (x n : Nat) : cn (l ++ [x]) n = cn l n + if n = x ∧ n ≠ 0 then 1 else 0 := by
  unfold cn
  by_cases h0 : n = 0
  · simp [h0]
  · rw [if_neg h0, if_neg h0, List.count_append, List.count_singleton]
    by_cases h : n = x
    · simp [h]; intro e; omega
    · simp [h, Ne.symm h]
theorem sp_app (l : List Nat) (x n : Nat) : sp (l ++ [x]) n = sp l n + if x < n then part1 x else 0 := by
  induction n with
  | zero => simp [sp]
  | succ n ih =>
    rw [sp, sp, ih, cn_app, Nat.add_mul]
    by_cases h : n = x
    · subst h
      rw [if_neg (Nat.lt_irrefl n), if_pos (Nat.lt_succ_self n)]
      by_cases h0 : n = 0
      · rw [if_neg (show ¬ (n = n ∧ n ≠ 0) from fun e => e.2 h0), Nat.zero_mul]
        unfold part1
        rw [if_pos h0]
        omega
      · rw [if_pos ⟨rfl, h0⟩, Nat.one_mul]
        unfold part1
        rw [if_neg h0]
        omega
    · rw [if_neg (show ¬ (n = x ∧ n ≠ 0) from fun e => h e.1), Nat.zero_mul]
      by_cases h2 : x < n
      · rw [if_pos h2, if_pos (show x < n + 1 by omega)]
        omega
      · rw [if_neg h2, if_neg (show ¬ x < n + 1 by omega)]
        omega
theorem sp_nil (n : Nat) : sp [] n = 0 := by
  induction n with
  | zero => rfl
  | succ n ih => rw [sp, ih]; simp [cn]
theorem room_rsum (l : List Nat) (h : ∀ x ∈ l, x ≤ 15) : room l = rsum l := by
  have key : ∀ k, k ≤ l.length → sp (l.take k) 16 = rsum (l.take k) := by
    intro k
    induction k with
    | zero => intro _; rw [List.take_zero, sp_nil]; rfl
    | succ k ih =>
      intro hk
      rw [List.take_succ_eq_append_getElem (by omega), sp_app, rsum_app, ih (by omega), if_pos]
      have := h _ (List.getElem_mem (show k < l.length by omega))
      omega
  have := key l.length (Nat.le_refl _)
  rwa [List.take_length] at this
theorem part1_le (x : Nat) : part1 x ≤ 32768 := by
  unfold part1
  split
  · omega
  · have : 2 ^ (15 - x) ≤ 2 ^ 15 := Nat.pow_le_pow_right (by omega) (by omega)
    omega
theorem rsum_le (l : List Nat) : rsum l ≤ l.length * 32768 := by
  unfold rsum
  induction l with
  | nil => simp
  | cons x r ih => have := part1_le x; simp only [List.map_cons, List.sum_cons, List.length_cons]; omega

def RoomTo (zs : List Int) (w : World) (e : Ending) (w' : World) : Prop := w = w' ∧ (Vd zs → e = .returned (.tuple #[.int .i64 (room (nat zs) : Nat), .bool true])) ∧ (¬ Vd zs → e = .returned (.tuple #[.int .i64 0, .bool false]))

theorem rtake {zs : List Int} {k : Nat} {x : Nat} (hk : k < zs.length) (hx : zs.getD k 0 = (x : Int)) : rsum (nat (zs.take (k + 1))) = rsum (nat (zs.take k)) + part1 x := by
  rw [List.take_succ_eq_append_getElem hk, show zs[k] = (x : Int) by rw [← hx]; simp [List.getD, hk], nat, List.map_append]
  exact rsum_app _ _
theorem shr_part {x : Nat} (h1 : 1 ≤ x) (h15 : x ≤ 15) : (32768 : Int) / 2 ^ x = (part1 x : Nat) := by
  unfold part1
  rw [if_neg (by omega)]
  exact shr_pow x (by omega)

set_option maxHeartbeats 1600000 in
theorem rroom_any (ao : Option Addr) (c : Nat) (zs : List Int) (w : World) (h : IS w ao zs) :
    Calls Try.prog 11 #[.slice ao zs.length c] w (RoomTo zs w) := by
  have HI := Lib.hid h
  clear h
  by_cases hl : 320 < zs.length
  · have hl' : (320 : Int) < zs.length := by omega
    go_enter Try.func11, Try.ntmps11
    go_wp2
    go_ret2
    exact ⟨rfl, fun v => absurd v.len (by omega), fun _ => rfl⟩
  · have hl' : (zs.length : Int) ≤ 320 := by omega
    go_enter Try.func11, Try.ntmps11
    go_wp2
    go_loop [4, 5] (fun nv iv => ∃ k : Nat, k ≤ zs.length ∧ iv = .int .i64 k ∧ nv = .int .i64 (rsum (nat (zs.take k)) : Nat) ∧ ∀ j, j < k → 0 ≤ zs.getD j 0 ∧ zs.getD j 0 ≤ 15) (fun _ iv => zs.length - (intOf iv).toNat)
    case atStart => exact ⟨0, Nat.zero_le _, rfl, rfl, fun j hj => absurd hj (Nat.not_lt_zero j)⟩
    case round =>
      obtain ⟨k, hk, rfl, rfl, hgood⟩ := hrel
      have HG := Lib.hid hgood
      clear hgood
      by_cases hlt : k < zs.length
      · have hkk : (k : Int) < zs.length := by omega
        obtain ⟨b, off, rfl, hcell⟩ := HI.out.at hlt
        obtain ⟨x, hx⟩ : ∃ x, x = zs.getD k 0 := ⟨_, rfl⟩
        have HX := Lib.hid hx
        rw [← hx] at hcell
        clear hx
        by_cases hbad : x < 0 ∨ 15 < x
        · have hno : Hid (¬ Vd zs) := Lib.hid fun v => by
            have := v.all _ (getD_mem hlt)
            rw [← HX.out] at this
            omega
          rcases hbad with hbad | hbad
          · go_wp2
            go_ret2
            exact ⟨rfl, fun v => absurd v hno.out, fun _ => rfl⟩
          · have hpos : 0 ≤ x := by omega
            go_wp2
            go_ret2
            exact ⟨rfl, fun v => absurd v hno.out, fun _ => rfl⟩
        · obtain ⟨n, rfl⟩ : ∃ n : Nat, x = (n : Int) := ⟨x.toNat, by omega⟩
          have hn : n ≤ 15 := by omega
          have h1 : decide ((n : Int) < 0) = false := by simp
          have h2 : decide (15 < (n : Int)) = false := by simp; omega
          have HS := Lib.hid (rtake hlt HX.out.symm)
          have hb1 := rsum_le (nat (zs.take k))
          rw [nat_len, List.length_take] at hb1
          obtain ⟨z, hz⟩ : ∃ z, z = rsum (nat (zs.take k)) := ⟨_, rfl⟩
          have HZ := Lib.hid hz
          rw [← hz] at hb1 ⊢
          clear hz hbad
          by_cases h0 : n = 0
          · subst h0
            go_wp2
            go_round
            case rel =>
              refine ⟨k + 1, by omega, by go_num, by rw [HS.out, ← HZ.out]; rfl, fun j hj => ?_⟩
              by_cases e : j = k
              · subst e; rw [← HX.out]; omega
              · exact HG.out j (by omega)
            case measure => simp [intOf]; omega
          · have h3 : decide (0 < (n : Int)) = true := by simp; omega
            have hp := part1_le n
            have e1 := shr_part (show 1 ≤ n by omega) hn
            go_wp2
            go_round
            case rel =>
              refine ⟨k + 1, by omega, by go_num, by rw [HS.out, ← HZ.out]; go_num, fun j hj => ?_⟩
              by_cases e : j = k
              · subst e; rw [← HX.out]; omega
              · exact HG.out j (by omega)
            case measure => simp [intOf]; omega
      · have hk' : k = zs.length := by omega
        subst hk'
        go_wp2
        go_ret2
        have HV : Vd zs := ⟨by omega, fun z hz => by
          obtain ⟨j, hj, rfl⟩ := List.getElem_of_mem hz
          have := HG.out j hj
          simpa [List.getD, hj] using this⟩
        refine ⟨rfl, fun _ => ?_, fun v => absurd HV v⟩
        rw [room_rsum (nat zs) (fun x hx => by
          obtain ⟨z, hz, rfl⟩ := List.mem_map.1 hx
          have := HV.all z hz
          omega)]
        rfl

/-! ### Integers copied and compared -/
def Copied (zs : List Int) (w : World) (e : Ending) (w' : World) : Prop := ∃ ao c, e = .returned (.slice ao zs.length c) ∧ IS w' ao zs ∧ Below w.heap.size w w'
theorem copy_any (ao : Option Addr) (c : Nat) (zs : List Int) (w : World) (h : IS w ao zs) (hc : zs = [] → ao = none → c = 0) (hl : zs.length ≤ 1000) :
    Calls Try.prog 9 #[.slice ao zs.length c] w (Copied zs w) := by
  have HI := Lib.hid ((h.below (w' := w.alloc (.cells #[] 3)) ((Below.refl _ _).alloc (Nat.le_refl _) _)).cells hc)
  clear h hc
  go_enter Try.func9, Try.ntmps9
  go_wp2_with (refine wpList_append_g at22 rfl (.tmp 5) (.tmp 6) rfl w.heap.size (.slice (some ⟨w.heap.size, 0, none⟩) 0 0) (.slice ao zs.length c) 0 zs.length [] (iv zs) rfl rfl (own_none w 3 1) HI.out (by rw [iv_len]; omega) (iv_one zs) (by simp) (by omega) (by omega) ?_; intro ao2 c2 w2 hA; have HA := Lib.hid hA; clear hA)
  go_ret
  refine ⟨ao2, c2, by simp, ?_, ?_⟩
  · have := HA.out.own
    simp only [Nat.zero_add, List.nil_append] at this
    exact own_is this rfl
  · exact ((Below.refl _ _).alloc (Nat.le_refl _) _).trans ((HA.out.below (own_none w 3 1) (by simp)))

set_option maxHeartbeats 800000 in
theorem same_any (a b : Option Addr) (c d : Nat) (zs : List Int) (w : World) (h : IS w a zs) (h2 : IS w b zs) (hl : zs.length ≤ 1000) :
    Calls Try.prog 14 #[.slice a zs.length c, .slice b zs.length d] w fun e w' => e = .returned (.bool true) ∧ ∃ q, w' = w.drewN q := by
  have H1 := Lib.hid h
  have H2 := Lib.hid h2
  clear h h2
  have hnn : ((zs.length : Int) != zs.length) = false := by simp
  go_enter Try.func14, Try.ntmps14
  go_wp2
  go_loopw [5] (fun i wr => ∃ k q : Nat, k ≤ zs.length ∧ i = .int .i64 k ∧ wr = w.drewN q) (fun i _ => zs.length - (intOf i).toNat)
  case atStart => exact ⟨0, 0, Nat.zero_le _, rfl, rfl⟩
  case round =>
    obtain ⟨k, q, hk, rfl, rfl⟩ := hrel
    by_cases hlt : k < zs.length
    · have hkk : (k : Int) < zs.length := by omega
      obtain ⟨b1, o1, rfl, c1⟩ := H1.out.at hlt
      obtain ⟨b2, o2, rfl, c2⟩ := H2.out.at hlt
      obtain ⟨x, hx⟩ : ∃ x, x = zs.getD k 0 := ⟨_, rfl⟩
      rw [← hx] at c1 c2
      clear hx
      have hxx : (x != x) = false := by simp
      go_wp2
      go_quiet (fail)
      go_wp2
      go_roundw
      case rel => exact ⟨k + 1, _, by omega, by go_num, rfl⟩
      case measure => simp [intOf]; omega
    · have hk' : k = zs.length := by omega
      subst hk'
      go_wp2
      go_ret
      exact ⟨rfl, _, rfl⟩
end Go.Proofs.Ythgehgdbplbcfaa
