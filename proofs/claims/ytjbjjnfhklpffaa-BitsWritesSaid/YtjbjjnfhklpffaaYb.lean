/-
  The reference's bits: Out, and Reverse.
-/
import Derived.Test.YtjbjjnfhklpffaaYa
import Derived.Test.YtjbjjnfhklpffaaR
namespace Go.Proofs.Ytjbjjnfhklpffaa
open Go.RowKit

theorem byte_or {bs : List Nat} (hb : Bs bs) {i x : Nat} (hi : i / 8 < bs.length) (hx : x < 2) (hlt : num bs < 2 ^ i) :
    byt bs (i / 8) ||| (x * 2 ^ (i % 8)) < 256 ∧ byt bs (i / 8) ||| (x * 2 ^ (i % 8)) = byt bs (i / 8) + x * 2 ^ (i % 8) ∧
    num (bs.set (i / 8) (byt bs (i / 8) ||| (x * 2 ^ (i % 8)))) = num bs + 2 ^ i * x := by
  have hlow : byt bs (i / 8) < 2 ^ (i % 8) := by
    unfold byt
    rw [num_byte hb, pow256]
    refine Nat.lt_of_le_of_lt (Nat.mod_le _ _) ?_
    rw [Nat.div_lt_iff_lt_mul (Nat.two_pow_pos _), ← Nat.pow_add, Nat.add_comm, show 8 * (i / 8) + i % 8 = i from by omega]
    exact hlt
  have hor := or_add (i % 8) (byt bs (i / 8)) x hlow
  have hp : 2 ^ (i % 8) ≤ 2 ^ 7 := Nat.pow_le_pow_right (by omega) (by omega)
  have hxm : x * 2 ^ (i % 8) ≤ 1 * 2 ^ (i % 8) := Nat.mul_le_mul_right _ (by omega)
  refine ⟨by rw [hor]; omega, hor, ?_⟩
  have h := num_set (a := bs) (k := i / 8) hi (byt bs (i / 8) + x * 2 ^ (i % 8))
  rw [hor]
  have e : 256 ^ (i / 8) * (x * 2 ^ (i % 8)) = 2 ^ i * x := by
    rw [pow256]
    conv => rhs; rw [show i = 8 * (i / 8) + i % 8 from by omega, Nat.pow_add]
    rw [Nat.mul_comm x, Nat.mul_assoc]
  rw [Nat.mul_add, e] at h
  unfold byt at h ⊢
  omega

theorem byte_or_int {bs : List Nat} (hb : Bs bs) {i x : Nat} (hx : x < 2) :
    bits BinOp.or IntKind.u8 (byt bs (i / 8) : Int) ((x : Int) * 2 ^ (i % 8) % 256) = ((byt bs (i / 8) ||| (x * 2 ^ (i % 8)) : Nat) : Int) := by
  have hp : 2 ^ (i % 8) ≤ 2 ^ 7 := Nat.pow_le_pow_right (by omega) (by omega)
  have hxm : x * 2 ^ (i % 8) ≤ 1 * 2 ^ (i % 8) := Nat.mul_le_mul_right _ (by omega)
  have e : ((x : Int) * 2 ^ (i % 8) % 256) = ((x * 2 ^ (i % 8) : Nat) : Int) := by
    rw [show (x : Int) * 2 ^ (i % 8) = ((x * 2 ^ (i % 8) : Nat) : Int) from by simp]
    omega
  exact (congrArg _ e).trans (u8_or_nat _ _ (hb.at _) (by omega))

theorem bnum_take_succ {l : List Nat} (i : Nat) (h : i < l.length) : bnum (l.take (i + 1)) = bnum (l.take i) + 2 ^ i * byt l i := by
  rw [List.take_succ_eq_append_getElem h, bnum_app, bnum_one, List.length_take, Nat.min_eq_left (by omega)]
  congr 2
  simp [byt, List.getD, h]

/-- The bytes so far. -/
def ROut (w1 : World) (base p : Nat) (g1 : Option Nat) (l : List Nat) (gm L i : Nat) (wr : World) : Prop :=
  ∃ bs, Bs bs ∧ bs.length = L ∧ num bs = bnum (l.take i) ∧ wr.ownsRow w1.heap.size 5 1 (.slice (some ⟨gm, 0, none⟩) L L) L (u8s bs) ∧ Rf wr base p g1 l ∧ Touch (fun _ => False) w1 wr

theorem zeros_u8 (n : Nat) : (madeCells #[Value.int .u8 0] n).toList = u8s (List.replicate n 0) := by
  rw [toList_madeCells_one]
  simp [u8s]

theorem num_zeros (n : Nat) : num (List.replicate n 0) = 0 := by
  induction n with
  | zero => simp [num]
  | succ n ih => simp [List.replicate_succ, num, ih]

/-- What Out answers. -/
def RfOut (w w1 : World) (base p : Nat) (g : Option Nat) (N n : Nat) (e : Ending) (w2 : World) : Prop :=
  ∃ bs a c, e = .returned (.slice a bs.length c) ∧ Bs bs ∧ bs.length = (n + 7) / 8 ∧ num bs = N ∧ BySl w2 (.slice a bs.length c) bs ∧ RfTo w base p g N n w2 ∧ Touch (fun _ => False) w1 w2

theorem ROut.step {w1 wr : World} {base p : Nat} {g1 : Option Nat} {l : List Nat} {L i : Nat} {bs : List Nat} (hl : 8 * L < l.length + 8) (hL : l.length ≤ 8 * L) (hi : i < l.length) (hb : Bs bs) (hbl : bs.length = L) (hn : num bs = bnum (l.take i)) (hown : wr.ownsRow w1.heap.size 5 1 (.slice (some ⟨w1.heap.size, 0, none⟩) L L) L (u8s bs)) (hr : Rf wr base p g1 l) (hp : p < w1.heap.size ∧ ∀ k, g1 = some k → k < w1.heap.size) (ht : Touch (fun _ => False) w1 wr) (nq : Nat) {u : Int}
    (hu : u = bits BinOp.or IntKind.u8 (byt bs (i / 8)) ((byt l i : Int) * 2 ^ (i % 8) % 256)) : ROut w1 base p g1 l w1.heap.size L (i + 1) ((wr.drewN nq).setCell ⟨w1.heap.size, i / 8, none⟩ (.int .u8 u)) := by
  have hx : byt l i < 2 := by
    unfold byt
    rw [List.getD_eq_getElem?_getD, List.getElem?_eq_getElem hi]
    exact hr.hb _ (List.getElem_mem hi)
  have hlt : num bs < 2 ^ i := by
    rw [hn]
    have h1 := bnum_lt (a := l.take i) (fun x hx => hr.hb x (List.mem_of_mem_take hx))
    rw [List.length_take, Nat.min_eq_left (by omega)] at h1
    exact h1
  obtain ⟨o1, o2, o3⟩ := byte_or hb (i := i) (x := byt l i) (by omega) hx hlt
  rw [byte_or_int hb hx] at hu
  subst hu
  have hst := (hown.stored (i / 8) (.int .u8 ((byt bs (i / 8) ||| (byt l i * 2 ^ (i % 8)) : Nat) : Int))).1
  have hset : (u8s bs).set (i / 8) (.int .u8 ((byt bs (i / 8) ||| (byt l i * 2 ^ (i % 8)) : Nat) : Int)) = u8s (bs.set (i / 8) (byt bs (i / 8) ||| (byt l i * 2 ^ (i % 8)))) := by unfold u8s; rw [List.map_set]
  rw [hset] at hst
  have hT : Touch (fun k => k = w1.heap.size) wr ((wr.drewN nq).setCell ⟨w1.heap.size, i / 8, none⟩ (.int .u8 ((byt bs (i / 8) ||| (byt l i * 2 ^ (i % 8)) : Nat) : Int))) := ((Touch.refl _ wr).drewN nq).setCell _ _ (.inl rfl)
  refine ⟨bs.set (i / 8) (byt bs (i / 8) ||| (byt l i * 2 ^ (i % 8))), hb.set _ o1, by rw [List.length_set, hbl], by rw [o3, hn, bnum_take_succ i hi], hst, hr.touch hT fun k hk e => ?_, (ht.drewN nq).setCell _ _ (.inr (Nat.le_refl _))⟩
  subst e
  rcases hk with e | hk
  · omega
  · have := hp.2 _ hk; omega

set_option maxHeartbeats 1600000 in
theorem rout_any {w1 : World} {base p : Nat} {g1 : Option Nat} {l : List Nat} (h : Rf w1 base p g1 l) (n L : Nat) (hn : l.length = n) (hl : n ≤ 100000000) (hL : ((n : Int) + 7) / 8 = (L : Int)) :
    Calls Try.prog 29 #[.pointer (some ⟨p, 0, none⟩)] w1 fun e w2 => ∃ gm, e = .returned (.slice (some ⟨gm, 0, none⟩) L L) ∧ ROut w1 base p g1 l gm L n w2 := by
  obtain ⟨i0, hi, hz0, hz1, hz2⟩ := info_parts Try.info5
  obtain ⟨sv, s1, s2, s3⟩ := h.blk
  obtain ⟨ao, c, rfl⟩ := own_shape s3
  obtain ⟨d0, e0⟩ := one_cell s1
  have hlt := h.lt.1
  have hbase := h.hp
  rw [hn] at d0
  have H := Lib.hid h
  have HN := Lib.hid hn
  have HL := Lib.hid hL
  have HS3 := Lib.hid s3
  clear h hn s1 s2 s3 hL
  have hLb : L ≤ 100000000 := by have := HL.out; omega
  have hLe := HL.out
  go_enter Try.func29, Try.ntmps29
  go_wp2_with (at_make; go_must (refine wpList_make_full w1 rfl (.tmp 11) (.tmp 11) 22 rfl w1.heap.size 5 i0 (.int .u8 0) 1 Try.underlying22 hi hz0 hz1 .i64 .i64 (((n : Int) + 7) / 8) (((n : Int) + 7) / 8) L rfl rfl HL.out HL.out (by rw [hz2]; omega) (by unfold maxLen; omega) (Nat.le_refl _) ?c1))
  case c1 =>
    intro w2 hown hgr
    have hRO : ROut w1 base p g1 l w1.heap.size L 0 w2 := by
      rw [zeros_u8] at hown
      have hT : Touch (fun _ => False) w1 w2 := (Touch.refl _ w1).grown hgr (fun k hk => by cases hk)
      exact ⟨List.replicate L 0, fun x hx => by have := List.eq_of_mem_replicate hx; omega, by simp, by simp [num_zeros, bnum], hown, H.out.touch hT (fun _ _ h => h), hT⟩
    have HRO := Lib.hid hRO
    clear hown hgr hRO
    go_wp2_with fail
    go_loopw [4] (fun i wr => ∃ k : Nat, k ≤ n ∧ i = .int .i64 k ∧ ROut w1 base p g1 l w1.heap.size L k wr) (fun i _ => n - (intOf i).toNat)
    case atStart => exact ⟨0, Nat.zero_le _, rfl, HRO.out⟩
    case round =>
      obtain ⟨k, hk, rfl, hR⟩ := hrel
      have HK := Lib.hid hR
      obtain ⟨bs, hb, hbl, hnn, hown, hr, ht⟩ := hR
      obtain ⟨sv2, t1, t2, t3⟩ := hr.blk
      obtain ⟨ao2, c2, rfl⟩ := own_shape t3
      obtain ⟨r0, r1⟩ := one_cell t1
      rw [HN.out] at r0
      by_cases hlt2 : k < n
      · obtain ⟨gl, rfl⟩ : ∃ gl, ao2 = some ⟨gl, 0, none⟩ := by
          rcases t3.2 with ⟨_, hh⟩ | ⟨gl, cap, cur, hh, _⟩
          · have := HN.out; omega
          · exact ⟨gl, by simp at hh; exact hh.1⟩
        have hcl : wr.cell? ⟨gl, k, none⟩ = some (.int .u8 (byt l k)) := row_cell t3 k (by have := HN.out; omega)
        have hco : wr.cell? ⟨w1.heap.size, k / 8, none⟩ = some (.int .u8 (byt bs (k / 8))) := by
          have hown' := hown
          rw [← hbl] at hown'
          exact row_cell (cap := bs.length) hown' (k / 8) (by have := HL.out; omega)
        have hfo : wr.frozen? ⟨w1.heap.size, k / 8, none⟩ = false := hown.frozenAt (k / 8)
        have hkL : k / 8 < L := by have := HL.out; omega
        have HST := Lib.hid fun (nq : Nat) (u : Int) (hu : u = bits BinOp.or IntKind.u8 (byt bs (k / 8)) ((byt l k : Int) * 2 ^ (k % 8) % 256)) => ROut.step (by have := HL.out; have := HN.out; omega) (by have := HL.out; have := HN.out; omega) (by have := HN.out; omega) hb hbl hnn hown hr ⟨hlt, fun k hk => (H.out.lt.2 k hk).2.1⟩ ht nq hu
        clear hb hbl hnn hown hr ht t1 t2 t3 hLe
        go_wp2_with fail
        go_region
        go_wp2
        go_roundw
        case rel => exact ⟨k + 1, by omega, by go_num, HST.out 1 _ rfl⟩
        case measure => simp [intOf]; omega
      · have hkn : k = n := by omega
        subst hkn
        clear hb hbl hnn hown hr ht t1 t2 t3 hLe
        go_wp2
        go_ret
        exact ⟨w1.heap.size, rfl, HK.out⟩
theorem RfTo.out {w w1 : World} {base p : Nat} {g : Option Nat} {N n : Nat} (h : RfTo w base p g N n w1) (hn : n ≤ 100000000) :
    Calls Try.prog 29 #[.pointer (some ⟨p, 0, none⟩)] w1 (RfOut w w1 base p g N n) := by
  obtain ⟨g1, l1, ho1, hl1, hn1, ht1, hr1⟩ := h
  refine (rout_any ho1 n ((n + 7) / 8) hl1 hn (by omega)).mono ?_
  rintro e w2 ⟨gm, rfl, bs, hb, hbl, hbn, hown, hrf, ht2⟩
  have hT : Touch (Foot p g) w w2 := ht1.trans (ht2.mono fun _ h => h.elim)
  refine ⟨bs, some ⟨gm, 0, none⟩, (n + 7) / 8, by rw [hbl], hb, hbl, ?_, ?_, ⟨g1, l1, hrf, hl1, hn1, hT, hr1⟩, ht2⟩
  · rw [hbn, List.take_of_length_le (by omega), hn1]
  · rw [← hbl] at hown
    rw [hbl] at hown ⊢
    have h2 : w2.ownsRow w1.heap.size 5 1 (.slice (some ⟨gm, 0, none⟩) bs.length ((n + 7) / 8)) bs.length (u8s bs) := by rw [hbl]; exact hown
    have h3 := BySl.own h2
    rw [hbl] at h3
    exact h3

/-! ### Reverse of the reference -/
theorem rrev_no (v n : Int) (w : World) (hn : n < 0 ∨ 32 < n) :
    Calls Try.prog 31 #[.int .u32 v, .int .i64 n] w fun e w' => e = .returned (.int .u32 0) ∧ w = w' := by
  by_cases h0 : n < 0
  · clear hn
    go_enter Try.func31, Try.ntmps31
    go_wp2
    go_ret
    exact ⟨rfl, rfl⟩
  · have h1 : 32 < n := by omega
    clear hn
    go_enter Try.func31, Try.ntmps31
    go_wp2
    go_ret
    exact ⟨rfl, rfl⟩

theorem rrev_yes (v n : Nat) (w : World) (hv : v < 4294967296) (hn : n ≤ 32) :
    Calls Try.prog 31 #[.int .u32 v, .int .i64 n] w fun e w' => e = .returned (.int .u32 (rv n v : Nat)) ∧ w = w' := by
  go_enter Try.func31, Try.ntmps31
  go_wp2
  go_loop [5, 6] (fun o i => ∃ k : Nat, k ≤ n ∧ i = .int .i64 k ∧ o = .int .u32 (rv k v : Nat)) (fun _ i => n - (intOf i).toNat)
  case atStart => exact ⟨0, Nat.zero_le _, rfl, by simp [rv]⟩
  case round =>
    obtain ⟨k, hk, rfl, rfl⟩ := hrel
    by_cases hlt : k < n
    · have hbit := bit_u8 v k hv
      have hl := rv_lt (k + 1) v
      have hp : 2 ^ (k + 1) ≤ 2 ^ 32 := Nat.pow_le_pow_right (by omega) (by omega)
      have HS := Lib.hid (show rv (k + 1) v = rv k v * 2 + v / 2 ^ k % 2 from rfl)
      have hl2 : rv k v * 2 + v / 2 ^ k % 2 < 4294967296 := by rw [rv] at hl; omega
      clear hl hp
      go_wp2
      go_round
      case rel => exact ⟨k + 1, by omega, by go_num, by rw [HS.out]; simp⟩
      case measure => simp [intOf]; omega
    · have hkn : k = n := by omega
      subst hkn
      go_wp2
      go_ret
      exact ⟨rfl, rfl⟩

end Go.Proofs.Ytjbjjnfhklpffaa
