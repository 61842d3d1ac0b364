/-
  The reference's bits: Put, Align and Raw.
-/
import Derived.Test.YtjbjjnfhklpffaaT
import Derived.Deep.LoopGhost
namespace Go.Proofs.Ytjbjjnfhklpffaa
open Go.RowKit

/-- The number that bits tell, the lowest one first. -/
def bnum : List Nat → Nat
  | [] => 0
  | b :: r => b + 2 * bnum r

def Bt (l : List Nat) : Prop := ∀ x ∈ l, x < 2

theorem Bt.bs {l : List Nat} (h : Bt l) : Bs l := fun x hx => by have := h x hx; omega
theorem Bt.app {a b : List Nat} (ha : Bt a) (hb : Bt b) : Bt (a ++ b) := fun x h => by
  rcases List.mem_append.1 h with h | h
  · exact ha x h
  · exact hb x h
theorem Bt.one {x : Nat} (h : x < 2) : Bt [x] := fun y hy => by
  rcases List.mem_singleton.1 hy with rfl; exact h

theorem bnum_app (a b : List Nat) : bnum (a ++ b) = bnum a + 2 ^ a.length * bnum b := by
  induction a with
  | nil => simp [bnum]
  | cons x r ih =>
    simp only [List.cons_append, bnum, ih, List.length_cons, Nat.pow_succ, Nat.mul_add]
    rw [show 2 ^ r.length * 2 * bnum b = 2 * (2 ^ r.length * bnum b) from by rw [Nat.mul_comm (2 ^ r.length) 2, Nat.mul_assoc]]
    omega
theorem bnum_one (x : Nat) : bnum [x] = x := by simp [bnum]
theorem bnum_lt {a : List Nat} (ha : Bt a) : bnum a < 2 ^ a.length := by
  induction a with
  | nil => simp [bnum]
  | cons x r ih =>
    have h1 := ha x (by simp)
    have h2 := ih fun y hy => ha y (by simp [hy])
    simp only [bnum, List.length_cons, Nat.pow_succ]
    omega

theorem bput_round {l : List Nat} {N n v d : Nat} (hl : l.length = n + d) (hN : bnum l = N + v % 2 ^ d * 2 ^ n) :
    bnum (l ++ [v / 2 ^ d % 2]) = N + v % 2 ^ (d + 1) * 2 ^ n := by
  rw [bnum_app, bnum_one, hN, hl, Nat.pow_succ 2 d, Nat.mod_mul, Nat.add_mul, Nat.pow_add, Nat.add_assoc]
  congr 2
  rw [Nat.mul_comm (2 ^ n) (2 ^ d), Nat.mul_assoc, Nat.mul_comm (2 ^ n), ← Nat.mul_assoc]

/-- The reference's bits: one cell, which leads to a row of the call's own. -/
structure Rf (w : World) (base p : Nat) (g : Option Nat) (l : List Nat) : Prop where
  blk : ∃ sv, w.heap[p]? = some (.cells #[sv] 46 (0, 0)) ∧ sv.ownBlock = g ∧ w.ownsRow base 5 1 sv l.length (u8s l)
  hp : base ≤ p
  hb : Bt l

theorem Rf.lt {w : World} {base p : Nat} {g : Option Nat} {l : List Nat} (h : Rf w base p g l) : p < w.heap.size ∧ ∀ k, g = some k → base ≤ k ∧ k < w.heap.size ∧ k ≠ p := by
  obtain ⟨sv, h1, rfl, h3⟩ := h.blk
  refine ⟨lt_of_block h1, fun k hk => ⟨(h3.lt k hk).1, (h3.lt k hk).2, fun e => ?_⟩⟩
  rcases h3.2 with ⟨rfl, _⟩ | ⟨g', cap, cur, rfl, _, hh, _⟩
  · simp [Value.ownBlock] at hk
  · simp [Value.ownBlock] at hk
    subst hk; subst e
    rw [hh] at h1
    simp at h1

theorem Rf.touch {S : Nat → Prop} {w w' : World} {base p : Nat} {g : Option Nat} {l : List Nat} (h : Rf w base p g l) (ht : Touch S w w') (hs : ∀ k, Foot p g k → ¬ S k) : Rf w' base p g l := by
  obtain ⟨hp, hg⟩ := h.lt
  obtain ⟨sv, h1, h2, h3⟩ := h.blk
  exact ⟨⟨sv, (ht.block p hp (hs p (.inl rfl))).trans h1, h2, ownsRow_touch h3 ht fun k hk => hs k (.inr (h2 ▸ hk))⟩, h.hp, h.hb⟩

theorem Rf.foot {w : World} {base p : Nat} {g : Option Nat} {l : List Nat} (h : Rf w base p g l) {k : Nat} (hk : Foot p g k) : base ≤ k ∧ k < w.heap.size := by
  rcases hk with rfl | hk
  · exact ⟨h.hp, h.lt.1⟩
  · exact ⟨(h.lt.2 k hk).1, (h.lt.2 k hk).2.1⟩

/-- What a call on the reference's bits leaves. -/
def RfTo (w : World) (base p : Nat) (g : Option Nat) (N n : Nat) (w' : World) : Prop :=
  ∃ g' l, Rf w' base p g' l ∧ l.length = n ∧ bnum l = N ∧ Touch (Foot p g) w w' ∧ ∀ k, g' = some k → g = some k ∨ w.heap.size ≤ k

theorem RfTo.refl {w : World} {base p : Nat} {g : Option Nat} {l : List Nat} (h : Rf w base p g l) : RfTo w base p g (bnum l) l.length w :=
  ⟨g, l, h, rfl, rfl, Touch.refl _ _, fun _ h => .inl h⟩

/-- All that one more bit leaves. -/
theorem rf_behind {w wr w1 : World} {base p : Nat} {g g1 : Option Nat} {l : List Nat} {x : Nat} {sv v' : Value} (ho : Rf wr base p g1 l) (hsv : wr.heap[p]? = some (.cells #[sv] 46 (0, 0))) (hg : sv.ownBlock = g1)
    (ht : Touch (Foot p g) w wr) (hr : ∀ k, g1 = some k → g = some k ∨ w.heap.size ≤ k) {W : World} (hW : Touch (fun _ => False) wr W) (hx : x < 2) {N' n' : Nat} (hN' : bnum (l ++ [x]) = N') (hn' : l.length + 1 = n') (hA : Apd W base sv (l ++ [x]) v' w1) :
    w1.heap[p]? = some (.cells #[sv] 46 (0, 0)) ∧ RfTo w base p g N' n' (w1.setCell ⟨p, 0, none⟩ v') := by
  subst hg; subst hN'; subst hn'
  have hoW := ho.touch hW (fun _ _ h => h)
  obtain ⟨hp, hgl⟩ := hoW.lt
  have hsW : W.heap[p]? = some (.cells #[sv] 46 (0, 0)) := (hW.block p ho.lt.1 (fun h => h)).trans hsv
  have h1 : w1.heap[p]? = some (.cells #[sv] 46 (0, 0)) := (hA.touch.block p hp (fun e => by have := hgl p e; omega)).trans hsW
  refine ⟨h1, v'.ownBlock, l ++ [x], ⟨⟨v', one_setCell h1, rfl, ownsRow_setCell_other hA.own (fun e => ?_) _⟩, ho.hp, ho.hb.app (Bt.one hx)⟩, by simp, rfl, ?_, ?_⟩
  · rcases hA.row p e with e | e
    · have := hgl p e; omega
    · omega
  · refine ((ht.trans (hW.mono fun _ h => h.elim)).trans' (T := fun k => sv.ownBlock = some k) hA.touch fun i hi hlt => ?_).setCell _ _ (.inl (.inl rfl))
    rcases hr i hi with h | h
    · exact .inr h
    · omega
  · intro k hk
    rcases hA.row k hk with h | h
    · exact hr k h
    · exact .inr (Nat.le_trans ht.size (Nat.le_trans hW.size h))

theorem one_cell {w : World} {p : Nat} {a : Value} {t : TypeId} (h : w.heap[p]? = some (.cells #[a] t (0, 0))) : w.cell? ⟨p, 0, none⟩ = some a ∧ w.frozen? ⟨p, 0, none⟩ = false := ⟨cell_of_one h, free_of_one h⟩

theorem bit_u8 (v d : Nat) (hv : v < 4294967296) : bits BinOp.and IntKind.u32 ((v : Int) / 2 ^ d) 1 = ((v / 2 ^ d % 2 : Nat) : Int) := by
  have h1 : v / 2 ^ d ≤ v := Nat.div_le_self _ _
  rw [show ((v : Int) / 2 ^ d) = ((v / 2 ^ d : Nat) : Int) from by simp, show (1 : Int) = ((1 : Nat) : Int) from rfl, u32_and_nat _ _ (by omega) (by omega), nat_mask1]

set_option maxHeartbeats 800000 in
theorem rput_any {w : World} {base p : Nat} {g : Option Nat} {l : List Nat} (h : Rf w base p g l) (hl : l.length ≤ 1000000000) (v k : Nat) (hv : v < 4294967296) (hk : k ≤ 32) :
    Calls Try.prog 22 #[.pointer (some ⟨p, 0, none⟩), .int .u32 v, .int .i64 k] w fun e w' => e = .returned (.tuple #[]) ∧ RfTo w base p g (bnum l + v % 2 ^ k * 2 ^ l.length) (l.length + k) w' := by
  have H := Lib.hid h
  have hbase := h.hp
  clear h
  go_enter Try.func22, Try.ntmps22
  go_wp2
  go_loopw [6] (fun i wr => ∃ d : Nat, d ≤ k ∧ i = .int .i64 d ∧ RfTo w base p g (bnum l + v % 2 ^ d * 2 ^ l.length) (l.length + d) wr) (fun i _ => k - (intOf i).toNat)
  case atStart => exact ⟨0, Nat.zero_le _, rfl, by simpa [Nat.mod_one] using RfTo.refl H.out⟩
  case round =>
    obtain ⟨d, hd, rfl, hrel⟩ := hrel
    by_cases hdk : d < k
    · obtain ⟨g1, l1, ho1, hl1, hn1, ht1, hr1⟩ := hrel
      obtain ⟨sv, s1, s2, s3⟩ := ho1.blk
      obtain ⟨ao1, cc1, rfl⟩ := own_shape s3
      obtain ⟨d0, e0⟩ := one_cell s1
      have hlt1 := ho1.lt.1
      have hbl : l1.length ≤ 1000000100 := by omega
      have HR := Lib.hid fun (o : Obj) (v' : Value) (w1 : World) (hA : Apd (wr.alloc o) base (.slice ao1 l1.length cc1) (l1 ++ [v / 2 ^ d % 2]) v' w1) => rf_behind ho1 s1 s2 ht1 hr1 ((Touch.refl _ wr).alloc o) (Nat.mod_lt _ (by omega)) (bput_round hl1 hn1) (show l1.length + 1 = l.length + (d + 1) by omega) hA
      have HS3 := Lib.hid s3
      have hbit := bit_u8 v d hv
      clear ho1 hl1 hn1 ht1 hr1 s1 s2 s3
      go_wp2_with (at_builtin; refine wpList_append_x rfl (.tmp 16) (.tmp 23) rfl base (.slice ao1 l1.length cc1) (.slice (some ⟨wr.heap.size, 0, none⟩) 1 1) l1 [v / 2 ^ d % 2] rfl rfl (World.ownsRow.alloc (w := wr) HS3.out _) (by_one wr (v / 2 ^ d % 2) ?c1) (by simp; omega) (by simp; omega) ?c2)
      case c1 => simp
      case c2 =>
        intro ao2 cc2 w2 hA
        obtain ⟨hs9, hR⟩ := HR.out _ _ _ hA
        obtain ⟨q0, q1⟩ := one_cell hs9
        have HRR := Lib.hid hR
        clear hA hs9 hR
        go_wp2
        go_roundw
        case rel => exact ⟨d + 1, by omega, by go_num, HRR.out⟩
        case measure => simp [intOf]; omega
    · have hdk' : d = k := by omega
      subst hdk'
      go_wp2
      go_end0
      exact ⟨rfl, hrel⟩
theorem rf_zero {l : List Nat} : bnum (l ++ [0]) = bnum l := by rw [bnum_app, bnum_one]; simp

set_option maxHeartbeats 800000 in
theorem ralign_n {w : World} {base p : Nat} {g : Option Nat} {N n0 u0 : Nat} (h : RfTo w base p g N n0 w) (hbase : base ≤ p) (hl : n0 ≤ 1000000000) (hub : n0 ≤ u0 ∧ u0 < n0 + 8 ∧ u0 % 8 = 0) :
    Calls Try.prog 24 #[.pointer (some ⟨p, 0, none⟩)] w fun e w' => e = .returned (.tuple #[]) ∧ RfTo w base p g N u0 w' := by
  have HH := Lib.hid h
  clear h
  go_enter Try.func24, Try.ntmps24
  go_wp2
  go_loopg [] (u0 - n0) (fun gm wr => ∃ m : Nat, n0 ≤ m ∧ m ≤ u0 ∧ gm = u0 - m ∧ RfTo w base p g N m wr)
  case atStart => exact ⟨n0, Nat.le_refl _, hub.1, rfl, HH.out⟩
  case round =>
    obtain ⟨m, hm0, hm, rfl, hrel⟩ := hrel
    obtain ⟨g1, l1, ho1, hl1, hn1, ht1, hr1⟩ := hrel
    obtain ⟨sv, s1, s2, s3⟩ := ho1.blk
    obtain ⟨ao1, cc1, rfl⟩ := own_shape s3
    obtain ⟨d0, e0⟩ := one_cell s1
    have hlt1 := ho1.lt.1
    rw [hl1] at d0
    by_cases hmu : m < u0
    · have HR := Lib.hid fun (o : Obj) (v' : Value) (w1 : World) (hA : Apd (wr.alloc o) base (.slice ao1 l1.length cc1) (l1 ++ [0]) v' w1) => rf_behind ho1 s1 s2 ht1 hr1 ((Touch.refl _ wr).alloc o) (by omega) (rf_zero.trans hn1) (show l1.length + 1 = m + 1 by omega) hA
      have HS3 := Lib.hid s3
      have HL1 := Lib.hid hl1
      have htst : ((m : Int) % 8 == 0) = false := by simp; omega
      have htst2 : ((m : Int) % 8 != 0) = true := by simp [bne]; omega
      have hbl : m ≤ 1000000010 := by omega
      clear ho1 hl1 hn1 ht1 hr1 s1 s2 s3
      go_wp2_with (at_builtin; refine wpList_append_x rfl (.tmp 13) (.tmp 14) rfl base (.slice ao1 l1.length cc1) (.slice (some ⟨wr.heap.size, 0, none⟩) 1 1) l1 [0] ?c0 rfl (World.ownsRow.alloc (w := wr) HS3.out _) (by_one wr 0 ?c1) (by simp; omega) (by rw [HL1.out]; simp; omega) ?c2)
      case c0 => rw [HL1.out]; rfl
      case c1 => rfl
      case c2 =>
        intro ao2 cc2 w2 hA
        obtain ⟨hs9, hR⟩ := HR.out _ _ _ hA
        obtain ⟨q0, q1⟩ := one_cell hs9
        have HRR := Lib.hid hR
        clear hA hs9 hR
        go_wp2
        go_roundg (u0 - (m + 1))
        case measure => omega
        case rel => exact ⟨m + 1, by omega, by omega, rfl, HRR.out⟩
    · have hmu' : m = u0 := by omega
      have hR : RfTo w base p g N u0 wr := ⟨g1, l1, ho1, by omega, hn1, ht1, hr1⟩
      have HR := Lib.hid hR
      have htst : ((m : Int) % 8 == 0) = true := by simp; omega
      have htst2 : ((m : Int) % 8 != 0) = false := by simp [bne]; omega
      clear ho1 hl1 hn1 ht1 hr1 s1 s2 s3 hR hmu'
      go_wp2
      go_end0
      exact ⟨rfl, HR.out⟩

theorem up8_b (n : Nat) : n ≤ up8 n ∧ up8 n < n + 8 ∧ up8 n % 8 = 0 := by unfold up8; omega

/-- From one state of the bits to the next. -/
theorem RfTo.on {w w1 w2 : World} {base p : Nat} {g g1 : Option Nat} {N n : Nat} (ht : Touch (Foot p g) w w1) (hr : ∀ k, g1 = some k → g = some k ∨ w.heap.size ≤ k) (h : RfTo w1 base p g1 N n w2) : RfTo w base p g N n w2 := by
  obtain ⟨g2, l2, h1, h2, h3, ht2, hr2⟩ := h
  refine ⟨g2, l2, h1, h2, h3, ht.trans' ht2 fun i hi hlt => ?_, fun k hk => ?_⟩
  · rcases hi with rfl | hi
    · exact .inl rfl
    · rcases hr i hi with h | h
      · exact .inr h
      · omega
  · rcases hr2 k hk with h | h
    · exact hr k h
    · exact .inr (Nat.le_trans ht.size h)

theorem RfTo.align {w w1 : World} {base p : Nat} {g : Option Nat} {N n : Nat} (h : RfTo w base p g N n w1) (hn : n ≤ 1000000000) :
    Calls Try.prog 24 #[.pointer (some ⟨p, 0, none⟩)] w1 fun e w' => e = .returned (.tuple #[]) ∧ RfTo w base p g N (up8 n) w' := by
  obtain ⟨g1, l1, ho1, hl1, hn1, ht1, hr1⟩ := h
  subst hl1; subst hn1
  exact (ralign_n (RfTo.refl ho1) ho1.hp hn (up8_b _)).mono fun _ _ ⟨he, hR⟩ => ⟨he, RfTo.on ht1 hr1 hR⟩

theorem RfTo.put {w w1 : World} {base p : Nat} {g : Option Nat} {N n : Nat} (h : RfTo w base p g N n w1) (hn : n ≤ 1000000000) (v k N' n' : Nat) (hv : v < 4294967296) (hk : k ≤ 32) (hN : N + v % 2 ^ k * 2 ^ n = N') (hn' : n + k = n') :
    Calls Try.prog 22 #[.pointer (some ⟨p, 0, none⟩), .int .u32 v, .int .i64 k] w1 fun e w' => e = .returned (.tuple #[]) ∧ RfTo w base p g N' n' w' := by
  subst hN; subst hn'
  obtain ⟨g1, l1, ho1, hl1, hn1, ht1, hr1⟩ := h
  subst hl1; subst hn1
  exact (rput_any ho1 hn v k hv hk).mono fun _ _ ⟨he, hR⟩ => ⟨he, RfTo.on ht1 hr1 hR⟩

theorem num_take_succ {ys : List Nat} (i : Nat) (h : i < ys.length) : num (ys.take (i + 1)) = num (ys.take i) + byt ys i * 2 ^ (8 * i) := by
  rw [List.take_succ_eq_append_getElem h, num_app, num_one, List.length_take, Nat.min_eq_left (by omega), pow256, Nat.mul_comm]
  congr 2
  simp [byt, List.getD, h]

theorem raw_round {ys : List Nat} (hy : Bs ys) (N u i : Nat) (h : i < ys.length) : N + num (ys.take i) * 2 ^ u + byt ys i % 2 ^ 8 * 2 ^ (u + 8 * i) = N + num (ys.take (i + 1)) * 2 ^ u := by
  have hb : byt ys i % 2 ^ 8 = byt ys i := Nat.mod_eq_of_lt (hy.at i)
  rw [hb, num_take_succ i h, Nat.add_mul, Nat.mul_assoc, ← Nat.pow_add, Nat.add_comm u (8 * i)]
  omega

set_option maxHeartbeats 800000 in
theorem RfTo.raw {w w1 : World} {base p : Nat} {g : Option Nat} {N n : Nat} {sv : Value} {ys : List Nat} (h : RfTo w base p g N n w1) (hs : BySl w sv ys) (hy : Bs ys) (hd : ∀ k, sv.ownBlock = some k → ¬ Foot p g k) (hn : n ≤ 100000000) (hl : ys.length ≤ 1000000) (N' n' : Nat) (hN : N + num ys * 2 ^ up8 n = N') (hn' : up8 n + 8 * ys.length = n') :
    Calls Try.prog 26 #[.pointer (some ⟨p, 0, none⟩), sv] w1 fun e w' => e = .returned (.tuple #[]) ∧ RfTo w base p g N' n' w' := by
  have hub := up8_b n
  obtain ⟨u, hu⟩ : ∃ u, up8 n = u := ⟨_, rfl⟩
  rw [hu] at hub hN hn'
  have hal := h.align (by omega)
  rw [hu] at hal
  have HAL := Lib.hid hal
  have HY := Lib.hid hy
  have HS := Lib.hid hs
  have HD := Lib.hid hd
  clear h hs hy hd hal hu
  by_cases h0 : ys.length = 0
  · obtain ⟨a, c, rfl⟩ := HS.out.shape
    have hx := List.eq_nil_of_length_eq_zero h0
    subst hx
    have e1 : N' = N := by rw [← hN]; simp [num]
    have e2 : n' = u := by rw [← hn']; simp
    subst e1; subst e2
    clear hN hn' h0
    go_enter Try.func26, Try.ntmps26
    go_wp2_with fail
    refine HAL.out.mono ?_
    rintro e w2 ⟨rfl, hR2⟩
    go_wp2_with fail
    refine wp_loop_rounds 1 ?_
    rw [rounds_succ]
    go_wp2
    go_end0
    exact ⟨rfl, hR2⟩
  · obtain ⟨b, off, c, rfl, _, hc⟩ := HS.out.at (by omega)
    have HC := Lib.hid hc
    obtain ⟨L, hL⟩ : ∃ L, ys.length = L := ⟨_, rfl⟩
    have HL := Lib.hid hL
    have HN := Lib.hid hN
    have HN' := Lib.hid hn'
    clear hc hN hn'
    rw [hL] at hl h0
    have hnb : b < w.heap.size := World.block_lt_of_cell? w _ (HC.out 0 (by omega))
    go_enter Try.func26, Try.ntmps26
    rw [hL]
    clear hL
    go_wp2_with fail
    refine HAL.out.mono ?_
    rintro e w2 ⟨rfl, hR2⟩
    go_wp2_with fail
    go_loopw [4] (fun i wr => ∃ k : Nat, k ≤ L ∧ i = .int .i64 k ∧ RfTo w base p g (N + num (ys.take k) * 2 ^ u) (u + 8 * k) wr) (fun i _ => L - (intOf i).toNat)
    case atStart => exact ⟨0, Nat.zero_le _, rfl, by simpa [num] using hR2⟩
    case round =>
      clear hR2
      obtain ⟨k, hk, rfl, hR⟩ := hrel
      by_cases hlt : k < L
      · have hcell : wr.cell? ⟨b, off + k, none⟩ = some (.int .u8 (byt ys k)) := by
          obtain ⟨_, _, _, _, _, ht, _⟩ := hR
          rw [World.cell?_of_block (w := w) (ht.block b hnb (HD.out b (by simp [Value.ownBlock])))]
          exact HC.out k (by rw [HL.out]; exact hlt)
        have hby : byt ys k < 256 := HY.out.at k
        have HRR := Lib.hid (raw_round HY.out N u k (by rw [HL.out]; exact hlt))
        go_wp2_with fail
        refine (hR.put (by omega) (byt ys k) 8 _ (u + 8 * (k + 1)) (by omega) (by omega) HRR.out (by omega)).mono ?_
        rintro e w3 ⟨rfl, hR3⟩
        clear hR
        go_wp2_with fail
        go_roundw
        case rel => exact ⟨k + 1, by omega, by go_num, hR3⟩
        case measure => simp [intOf]; omega
      · have hkl : k = L := by omega
        have HF : Hid (RfTo w base p g N' n' wr) := by
          rw [hkl, List.take_of_length_le (by rw [HL.out]; exact Nat.le_refl _), HN.out, ← HL.out, HN'.out] at hR
          exact hR
        clear hR
        go_wp2
        go_end0
        exact ⟨rfl, HF.out⟩

end Go.Proofs.Ytjbjjnfhklpffaa
