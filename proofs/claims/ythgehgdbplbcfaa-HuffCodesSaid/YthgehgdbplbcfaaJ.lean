
/-
  The contract of a writer's Put.
-/
import Derived.Test.YthgehgdbplbcfaaH
namespace Go.Proofs.Ythgehgdbplbcfaa
open Go.RowKit

theorem put_no (p : Nat) (v n : Int) (w : World) (hn : n < 0 ∨ 32 < n) :
    Calls Try.prog 37 #[.pointer (some ⟨p, 0, none⟩), .int .u32 v, .int .i64 n] w fun e w' => e = .returned (.tuple #[]) ∧ w = w' := by
  go_enter Try.func37, Try.ntmps37
  go_wp2_with (go_at_call 38; refine (isWidth_no n _ hn).mono ?_; rintro e w' ⟨rfl, rfl⟩)
  exact bodyPost_ret (results_none rfl _ _ _) rfl ⟨rfl, rfl⟩

/-- The bytes of a writer hold its bits, and noughts behind. -/
structure WI (bs : List Nat) (n : Nat) : Prop where
  lo : n ≤ 8 * bs.length
  hi : 8 * bs.length < n + 8
  lt : num bs < 2 ^ n

theorem u64_of_u32 (v : Nat) (hv : v < 4294967296) : IntKind.u64.wrap (v : Int) = (v : Int) := by
  rw [IntKind.wrap_u64]; omega

/-- In the midst of a Put: d bits of the new ones, or more, are there. -/
def PutRel (w : World) (base p : Nat) (g : Option Nat) (N n x d : Nat) (wr : World) : Prop :=
  ∃ bs g', Ob wr base 79 p g' bs n ∧ Touch (Foot p g) w wr ∧ (∀ k, g' = some k → g = some k ∨ w.heap.size ≤ k) ∧ 8 * bs.length = n + d ∧ num bs = N + x % 2 ^ d * 2 ^ n

theorem lowest_eq (v : Int) (V n X : Nat) (w : World) (hv : v = (V : Int)) (hn : n ≤ 32) (hV : V < 18446744073709551616) (hX : V % 2 ^ n = X) :
    Calls Try.prog 42 #[.int .u64 v, .int .i64 n] w fun e w' => e = .returned (.int .u64 X) ∧ w = w' := by
  rw [← hX]; exact lowest_int v V n w hv hn hV

theorem PutRel.start {w : World} {base p : Nat} {g : Option Nat} {bs : List Nat} {n x : Nat} (h : Ob w base 79 p g bs n) (hl : 8 * bs.length = n) (nq : Nat) : PutRel w base p g (num bs) n x 0 (w.drewN nq) :=
  ⟨bs, g, h.drewN nq, (Touch.refl _ w).drewN nq, fun k hk => .inl hk, by omega, by simp [Nat.mod_one]⟩

/-- Behind the store into the last byte. -/
theorem PutRel.first {w : World} {base p g0 c : Nat} {bs : List Nat} {n x : Nat} (h : Ob w base 79 p (some g0) bs n) (own : w.ownsRow base 5 1 (.slice (some ⟨g0, 0, none⟩) bs.length c) bs.length (u8s bs)) (h1 : w.heap[p]? = some (.cells #[.slice (some ⟨g0, 0, none⟩) bs.length c, .int .i64 n] 79 (0, 0)))
    (hw : WI bs n) (hf : n < 8 * bs.length) (hx : x < 4294967296) (nq : Nat) {u : Int} (hu : u = bits BinOp.or IntKind.u8 (byt bs (bs.length - 1)) (IntKind.u64.wrap ((x : Int) * 2 ^ (8 - (bs.length * 8 - n))) % 256)) :
    PutRel w base p (some g0) (num bs) n x (bs.length * 8 - n) ((w.drewN nq).setCell ⟨g0, bs.length - 1, none⟩ (.int .u8 u)) := by
  have hgp := h.lt.2 g0 rfl
  have hhi := hw.hi
  have hf2 := put_first (bs := bs) (x := x) (f := bs.length * 8 - n) h.hb (by omega) (by omega) (by omega) rfl hw.lt
  have hle : 8 - (bs.length * 8 - n) ≤ 8 := by omega
  have hp2 : 2 ^ (8 - (bs.length * 8 - n)) ≤ 2 ^ 8 := Nat.pow_le_pow_right (by omega) hle
  have hmul : x * 2 ^ (8 - (bs.length * 8 - n)) ≤ 4294967296 * 2 ^ 8 := Nat.mul_le_mul (by omega) hp2
  have hue : u = ((bs.getD (bs.length - 1) 0 ||| (x * 2 ^ (8 - (bs.length * 8 - n)) % 256) : Nat) : Int) := by
    rw [hu]
    have e1 : IntKind.u64.wrap ((x : Int) * 2 ^ (8 - (bs.length * 8 - n))) % 256 = ((x * 2 ^ (8 - (bs.length * 8 - n)) % 256 : Nat) : Int) := by
      rw [IntKind.wrap_u64, show (x : Int) * 2 ^ (8 - (bs.length * 8 - n)) = ((x * 2 ^ (8 - (bs.length * 8 - n)) : Nat) : Int) from by simp]
      omega
    rw [e1]
    exact u8_or_nat _ _ (h.hb.at _) (Nat.mod_lt _ (by omega))
  have hst := (own.stored (bs.length - 1) (.int .u8 u)).1
  have hset : (u8s bs).set (bs.length - 1) (.int .u8 u) = u8s (bs.set (bs.length - 1) (bs.getD (bs.length - 1) 0 ||| (x * 2 ^ (8 - (bs.length * 8 - n)) % 256))) := by
    rw [hue]; unfold u8s; rw [List.map_set]
  rw [hset] at hst
  refine ⟨bs.set (bs.length - 1) (bs.getD (bs.length - 1) 0 ||| (x * 2 ^ (8 - (bs.length * 8 - n)) % 256)), some g0, ⟨⟨.slice (some ⟨g0, 0, none⟩) bs.length c, ?_, ?_, ?_⟩, h.hp, h.hb.set _ hf2.1, h.ht⟩, ((Touch.refl _ w).drewN nq).setCell _ _ (.inl (.inr rfl)), fun k hk => .inl hk, by rw [List.length_set]; omega, hf2.2⟩
  · exact (Below.heap_setCell _ _ _ _ (by simp only []; omega)).trans h1
  · rfl
  · rw [List.length_set]; exact hst

theorem PutRel.next {w wr w1 : World} {base p : Nat} {g g1 : Option Nat} {bs : List Nat} {N n x d : Nat} {sv v' : Value} (ht : Touch (Foot p g) w wr) (hr : ∀ k, g1 = some k → g = some k ∨ w.heap.size ≤ k) (hl : 8 * bs.length = n + d) (hN : num bs = N + x % 2 ^ d * 2 ^ n)
    {W : World} (ho : Ob W base 79 p sv.ownBlock bs n) (hsv : W.heap[p]? = some (.cells #[sv, .int .i64 n] 79 (0, 0))) (hW : Touch (fun _ => False) wr W) (hg : sv.ownBlock = g1) (hA : Apd W base sv (bs ++ [x / 2 ^ d % 256]) v' w1) :
    PutRel w base p g N n x (d + 8) (w1.setCell ⟨p, 0, none⟩ v') := by
  subst hg
  obtain ⟨hs1, g2, ho2, ht2, hr2⟩ := grew_of ho hA (ho.hb.app (Bs.one (Nat.mod_lt _ (by omega)))) hsv
  refine ⟨_, g2, ho2, (ht.trans (hW.mono fun _ h => h.elim)).trans' ht2 ?_, ?_, by rw [List.length_append, List.length_singleton]; omega, put_round hl hN⟩
  · intro i hi hlt
    rcases hi with rfl | hi
    · exact .inl rfl
    · rcases hr i hi with h | h
      · exact .inr h
      · omega
  · intro k hk
    rcases hr2 k hk with h | h
    · exact hr k h
    · exact .inr (Nat.le_trans ht.size (Nat.le_trans hW.size h))

/-- A writer has got a number of bits, which tell a number; only its own blocks have changed. -/
def Wrote (w : World) (base p : Nat) (g : Option Nat) (N n : Nat) (w' : World) : Prop :=
  ∃ bs, Grew w base 79 p g bs n w' ∧ WI bs n ∧ num bs = N

theorem PutRel.done {w wr : World} {base p : Nat} {g : Option Nat} {N n x d k : Nat} (h : PutRel w base p g N n x d wr) (hN : N < 2 ^ n) (hx : x < 2 ^ k) (h1 : k ≤ d) (h2 : d < k + 8) {u : Int} (hu : u = ((n + k : Nat) : Int)) :
    Wrote w base p g (N + x * 2 ^ n) (n + k) (wr.setCell ⟨p, 1, none⟩ (.int .i64 u)) := by
  subst hu
  obtain ⟨bs, g', ho, ht, hr, hl, hn⟩ := h
  have hxd : x % 2 ^ d = x := Nat.mod_eq_of_lt (Nat.lt_of_lt_of_le hx (Nat.pow_le_pow_right (by omega) h1))
  rw [hxd] at hn
  exact ⟨bs, ⟨g', ho.set1 _, ht.setCell _ _ (.inl (.inl rfl)), hr⟩, ⟨by omega, by omega, by rw [hn]; exact put_lt hN hx⟩, hn⟩

theorem by_one (W : World) (y : Nat) {u : Int} (hu : u = (y : Int)) : BySl (W.alloc (.cells #[.int .u8 u] 5)) (.slice (some ⟨W.heap.size, 0, none⟩) 1 1) [y] := by
  subst hu
  refine .inr ⟨⟨W.heap.size, 0, none⟩, 1, rfl, by simp, fun j u hj => ?_⟩
  match j, hj with
  | 0, hj => simp [u8s] at hj; subst hj; simp [Addr.add]

theorem wrap8 (X d : Nat) : IntKind.u8.wrap ((X : Int) / 2 ^ d) = ((X / 2 ^ d % 256 : Nat) : Int) := by
  rw [IntKind.wrap_u8']; simp

/-- All that a round of Put has behind its append. -/
theorem put_behind {w wr w1 : World} {base p : Nat} {g g1 : Option Nat} {bs : List Nat} {N n x d : Nat} {sv v' : Value} (ho : Ob wr base 79 p g1 bs n) (hsv : wr.heap[p]? = some (.cells #[sv, .int .i64 n] 79 (0, 0))) (hg : sv.ownBlock = g1)
    (ht : Touch (Foot p g) w wr) (hr : ∀ k, g1 = some k → g = some k ∨ w.heap.size ≤ k) (hl : 8 * bs.length = n + d) (hN : num bs = N + x % 2 ^ d * 2 ^ n) {o : Obj}
    (hA : Apd (wr.alloc o).drew base sv (bs ++ [x / 2 ^ d % 256]) v' w1) :
    w1.heap[p]? = some (.cells #[sv, .int .i64 n] 79 (0, 0)) ∧ PutRel w base p g N n x (d + 8) (w1.setCell ⟨p, 0, none⟩ v') := by
  subst hg
  have hW : Touch (fun _ => False) wr (wr.alloc o).drew := ((Touch.refl _ wr).alloc o).drew
  have hoW := ho.touch hW (fun _ _ h => h)
  have hsW : (wr.alloc o).drew.heap[p]? = some (.cells #[sv, .int .i64 n] 79 (0, 0)) := (hW.block p ho.lt.1 (fun h => h)).trans hsv
  exact ⟨(grew_of hoW hA (ho.hb.app (Bs.one (Nat.mod_lt _ (by omega)))) hsW).1, PutRel.next ht hr hl hN hoW hsW hW rfl hA⟩

set_option maxHeartbeats 800000 in
theorem put_yes {w : World} {base p : Nat} {g : Option Nat} {bs : List Nat} {n : Nat} (h : Ob w base 79 p g bs n) (hw : WI bs n) (hl : bs.length ≤ 999999000) (v k X : Nat) (hv : v < 4294967296) (hk : k ≤ 32) (hX : v % 2 ^ k = X) :
    Calls Try.prog 37 #[.pointer (some ⟨p, 0, none⟩), .int .u32 v, .int .i64 k] w fun e w' => e = .returned (.tuple #[]) ∧ Wrote w base p g (num bs + X * 2 ^ n) (n + k) w' := by
  obtain ⟨fv, h1, hg, h3⟩ := h.blk
  subst hg
  have hlt := h.lt.1
  have hbase := h.hp
  have hlo := hw.lo
  have hhi := hw.hi
  obtain ⟨ao, c, rfl⟩ := own_shape h3
  obtain ⟨c0, c1, f0, f1⟩ := two_cell h1
  have hX2 : X < 4294967296 := by
    have := Nat.mod_le v (2 ^ k); omega
  have HB := Lib.hid h1
  have H := Lib.hid h
  have HO := Lib.hid h3
  have HW := Lib.hid hw
  have HX := Lib.hid hX
  clear h1 h h3 hw hX
  by_cases hf : n < 8 * bs.length
  · obtain ⟨g0, rfl⟩ : ∃ g0, ao = some ⟨g0, 0, none⟩ := by
      rcases HO.out.2 with ⟨hh, h0⟩ | ⟨g0, cap, cur, hh, _⟩
      · omega
      · exact ⟨g0, by simp at hh; exact hh.1⟩
    have r0 := row_cell HO.out (bs.length - 1) (by omega)
    have r1 := HO.out.frozenAt (bs.length - 1)
    have hfd : decide ((n : Int) < (bs.length : Int) * 8) = true := by simp; omega
    go_enter Try.func37, Try.ntmps37
    go_wp2_with (first
      | (go_at_call 38; refine (isWidth_yes k _ (by omega) (by omega)).mono ?_; rintro e w' ⟨rfl, rfl⟩)
      | (go_at_call 42; refine (lowest_eq _ v k X _ rfl hk (by omega) HX.out).mono ?_; rintro e w' ⟨rfl, rfl⟩))
    go_quiet (fail)
    go_wp2
    go_region
    go_wp2
    go_loopw [8] (fun i wr => ∃ d : Nat, d < k + 8 ∧ i = .int .i64 d ∧ PutRel w base p (some g0) (num bs) n X d wr) (fun i _ => 40 - (intOf i).toNat)
    case atStart =>
      refine ⟨bs.length * 8 - n, by omega, by congr 1; omega, PutRel.first H.out HO.out HB.out HW.out hf hX2 _ rfl⟩
    case round =>
      obtain ⟨d, hd, rfl, hrel⟩ := hrel
      obtain ⟨bs1, g1, ho1, ht1, hr1, hl1, hn1⟩ := hrel
      obtain ⟨sv, s1, s2, s3⟩ := ho1.blk
      obtain ⟨ao1, cc1, rfl⟩ := own_shape s3
      obtain ⟨d0, d1, e0, e1⟩ := two_cell s1
      have hlt1 := ho1.lt.1
      have HO1 := Lib.hid ho1
      have HT1 := Lib.hid ht1
      have HR1 := Lib.hid hr1
      have HL1 := Lib.hid hl1
      have HN1 := Lib.hid hn1
      have HS1 := Lib.hid s1
      have HS2 := Lib.hid s2
      have HS3 := Lib.hid s3
      have hbl : bs1.length ≤ 999999100 := by omega
      clear ho1 ht1 hr1 hl1 hn1 s1 s2 s3
      by_cases hdk : d < k
      · go_wp2
        go_region_law (refine step_append_x rfl (.tmp 58) (.tmp 63) rfl base (.slice ao1 bs1.length cc1) (.slice (some ⟨wr.heap.size, 0, none⟩) 1 1) bs1 [X / 2 ^ d % 256] (by simp [Act.eval]) (by simp [Act.eval]) (World.ownsRow.alloc (w := wr) HS3.out _) (by_one wr (X / 2 ^ d % 256) (wrap8 X d)) (by simp; omega) (by simp; omega) ?_; intro ao2 cc2 w2 hA; obtain ⟨hs9, hR⟩ := put_behind HO1.out HS1.out HS2.out HT1.out HR1.out HL1.out HN1.out hA; obtain ⟨q0, q1, q2, q3⟩ := two_cell hs9; (try rw [List.length_append, List.length_singleton] at hR); have HR := Lib.hid hR; clear hA hs9 hR)
        all_goals
          go_wp2
          go_roundw
          case rel => exact ⟨d + 8, by omega, by go_num, HR.out⟩
          case measure => simp [intOf]; omega
      · have hXk : X < 2 ^ k := by rw [← HX.out]; exact Nat.mod_lt _ (Nat.two_pow_pos k)
        have hR : PutRel w base p (some g0) (num bs) n X d wr := ⟨bs1, g1, HO1.out, HT1.out, HR1.out, HL1.out, HN1.out⟩
        have hD := hR.done HW.out.lt hXk (by omega) hd (u := (n : Int) + k) (by omega)
        have HD := Lib.hid hD
        clear hXk hR hD
        go_wp2
        go_end0
        exact ⟨rfl, HD.out⟩
  · have hfd : decide ((n : Int) < (bs.length : Int) * 8) = false := by simp; omega
    go_enter Try.func37, Try.ntmps37
    go_wp2_with (first
      | (go_at_call 38; refine (isWidth_yes k _ (by omega) (by omega)).mono ?_; rintro e w' ⟨rfl, rfl⟩)
      | (go_at_call 42; refine (lowest_eq _ v k X _ rfl hk (by omega) HX.out).mono ?_; rintro e w' ⟨rfl, rfl⟩))
    go_quiet (fail)
    go_wp2
    go_loopw [8] (fun i wr => ∃ d : Nat, d < k + 8 ∧ i = .int .i64 d ∧ PutRel w base p (Value.slice ao bs.length c).ownBlock (num bs) n X d wr) (fun i _ => 40 - (intOf i).toNat)
    case atStart =>
      exact ⟨0, by omega, by congr 1; omega, PutRel.start H.out (by omega) _⟩
    case round =>
      obtain ⟨d, hd, rfl, hrel⟩ := hrel
      obtain ⟨bs1, g1, ho1, ht1, hr1, hl1, hn1⟩ := hrel
      obtain ⟨sv, s1, s2, s3⟩ := ho1.blk
      obtain ⟨ao1, cc1, rfl⟩ := own_shape s3
      obtain ⟨d0, d1, e0, e1⟩ := two_cell s1
      have hlt1 := ho1.lt.1
      have HO1 := Lib.hid ho1
      have HT1 := Lib.hid ht1
      have HR1 := Lib.hid hr1
      have HL1 := Lib.hid hl1
      have HN1 := Lib.hid hn1
      have HS1 := Lib.hid s1
      have HS2 := Lib.hid s2
      have HS3 := Lib.hid s3
      have hbl : bs1.length ≤ 999999100 := by omega
      clear ho1 ht1 hr1 hl1 hn1 s1 s2 s3
      by_cases hdk : d < k
      · go_wp2
        go_region_law (refine step_append_x rfl (.tmp 58) (.tmp 63) rfl base (.slice ao1 bs1.length cc1) (.slice (some ⟨wr.heap.size, 0, none⟩) 1 1) bs1 [X / 2 ^ d % 256] (by simp [Act.eval]) (by simp [Act.eval]) (World.ownsRow.alloc (w := wr) HS3.out _) (by_one wr (X / 2 ^ d % 256) (wrap8 X d)) (by simp; omega) (by simp; omega) ?_; intro ao2 cc2 w2 hA; obtain ⟨hs9, hR⟩ := put_behind HO1.out HS1.out HS2.out HT1.out HR1.out HL1.out HN1.out hA; obtain ⟨q0, q1, q2, q3⟩ := two_cell hs9; (try rw [List.length_append, List.length_singleton] at hR); have HR := Lib.hid hR; clear hA hs9 hR)
        all_goals
          go_wp2
          go_roundw
          case rel => exact ⟨d + 8, by omega, by go_num, HR.out⟩
          case measure => simp [intOf]; omega
      · have hXk : X < 2 ^ k := by rw [← HX.out]; exact Nat.mod_lt _ (Nat.two_pow_pos k)
        have hR : PutRel w base p (Value.slice ao bs.length c).ownBlock (num bs) n X d wr := ⟨bs1, g1, HO1.out, HT1.out, HR1.out, HL1.out, HN1.out⟩
        have hD := hR.done HW.out.lt hXk (by omega) hd (u := (n : Int) + k) (by omega)
        have HD := Lib.hid hD
        clear hXk hR hD
        go_wp2
        go_end0
        exact ⟨rfl, HD.out⟩

/-- A writer's object holds just these bits. -/
def Wr (w : World) (base p : Nat) (g : Option Nat) (N n : Nat) : Prop := ∃ bs, Ob w base 79 p g bs n ∧ WI bs n ∧ num bs = N

end Go.Proofs.Ythgehgdbplbcfaa
