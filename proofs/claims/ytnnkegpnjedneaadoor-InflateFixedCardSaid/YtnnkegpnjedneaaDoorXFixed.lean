import Derived.Test.YtnnkegpnjedneaaDoorX12
import Derived.Deep.LoopGhost
/-
  InflateFixed: for all bytes and numbers the law returns true and its arguments read as before: no condition beyond the program's table as its initialiser lays it (tied).
-/
namespace Go.Proofs.YtnnkegpnjedneaaDoor.inflateFixed
open Go.ChangeShapes Go.WideShapes Go.ChangeAt Go.RowKit
set_option maxRecDepth 100000

theorem len_bd0 : ∀ y, y < 286 → (lenOf y).all (fun x => decide (3 ≤ x.1 ∧ x.1 ≤ 258 ∧ x.2 ≤ 5)) = true := by decide +kernel
theorem dis_bd0 : ∀ y, y < 30 → (disOf y).all (fun x => decide (1 ≤ x.1 ∧ x.1 ≤ 24577 ∧ x.2 ≤ 13)) = true := by decide +kernel
theorem len_bd {y b n : Nat} (h : lenOf y = some (b, n)) : 3 ≤ b ∧ b ≤ 258 ∧ n ≤ 5 := by
  have := len_bd0 y (by have := len_some h; omega)
  rw [h] at this
  simpa using this
theorem dis_bd {y b n : Nat} (h : disOf y = some (b, n)) : 1 ≤ b ∧ b ≤ 24577 ∧ n ≤ 13 := by
  have := dis_bd0 y (by have := dis_some h; omega)
  rw [h] at this
  simpa using this

theorem wid_cp (l : List Nat) : wid (l.map (cp fixF)) ≤ 15 * l.length := by
  induction l with
  | nil => simp [wid]
  | cons x l ih =>
    have := ln_le fixF_okW.1 x
    simp only [List.map_cons, wid, cp, List.length_cons]
    omega
theorem str_pieces {bs xs : List Nat} {y e n z r m : Nat} (h : Str bs 0 ((3, 3) :: xs.map (cp fixF) ++ [cp fixF y] ++ [(e, n)] ++ [cp fixO z] ++ [(r, m)] ++ [cp fixF 256])) : Str bs 0 (pieces xs y e n z r m) := by
  obtain ⟨R, hR⟩ : ∃ R, R = xs.map (cp fixF) ++ [cp fixF y, (e, n), cp fixO z, (r, m), cp fixF 256] := ⟨_, rfl⟩
  have e1 : (3, 3) :: xs.map (cp fixF) ++ [cp fixF y] ++ [(e, n)] ++ [cp fixO z] ++ [(r, m)] ++ [cp fixF 256] = (3, 3) :: R := by rw [hR]; simp
  have e2 : pieces xs y e n z r m = (1, 1) :: (1, 2) :: R := by rw [hR]; rfl
  rw [e1] at h
  rw [e2]
  obtain ⟨⟨q, hq⟩, hl⟩ := h
  refine ⟨⟨q, ?_⟩, ?_⟩
  · rw [hq]
    show (3 + 2 ^ 3 * val R) + 2 ^ (3 + wid R) * q = (1 + 2 ^ 1 * (1 + 2 ^ 2 * val R)) + 2 ^ (1 + (2 + wid R)) * q
    rw [show 1 + (2 + wid R) = 3 + wid R by omega]
    generalize 2 ^ (3 + wid R) * q = Z
    omega
  · simp only [wid] at hl ⊢
    omega
/-- A row that grows, an answer beside it. -/
structure Bk (B lo hi : Nat) (w wr : World) (v : Value) (ys : List Nat) (q base : Nat) (ov : Value) (out : List Nat) (u st bl : Nat) : Prop where
  own : wr.ownsRow B 5 1 v ys.length (u8s ys)
  ne : ∀ k, v.ownBlock = some k → k < lo ∨ hi ≤ k
  ans : Ans wr q base ov out u st bl
  hq : lo ≤ q ∧ q < hi
  ho : ∀ k, ov.ownBlock = some k → lo ≤ k ∧ k < hi
  below : Below B w wr
  size : B ≤ wr.heap.size
  hi_ : hi ≤ wr.heap.size
theorem Bk.app {B lo hi : Nat} {w wr w' : World} {v v' : Value} {ys zs : List Nat} {q base : Nat} {ov : Value} {out : List Nat} {u st bl : Nat} (h : Bk B lo hi w wr v ys q base ov out u st bl) (k : Apd wr B v zs v' w') : Bk B lo hi w w' v' zs q base ov out u st bl := by
  refine ⟨k.own, fun i hi' => ?_, ⟨h.ans.blk.touch k.touch fun e => ?_, ownsRow_touch h.ans.own k.touch fun i hi' hs => ?_⟩, h.hq, h.ho, h.below.trans (k.touch.below h.size fun i hi => (h.own.lt i hi).1), Nat.le_trans h.size k.touch.size, Nat.le_trans h.hi_ k.touch.size⟩
  · rcases k.row i hi' with h1 | h1
    · exact h.ne i h1
    · exact .inr (Nat.le_trans h.hi_ h1)
  · have := h.ne q e
    have := h.hq
    omega
  · have := h.ne i hs
    have := h.ho i hi'
    omega
theorem Bk.grow {B lo hi : Nat} {w wr w' : World} {v : Value} {ys : List Nat} {q base : Nat} {ov : Value} {out : List Nat} {u st bl : Nat} (h : Bk B lo hi w wr v ys q base ov out u st bl) (hb : Below wr.heap.size wr w') : Bk B lo hi w w' v ys q base ov out u st bl :=
  ⟨ownsRow_touch h.own (Touch.of_below hb : Touch (fun _ => False) wr w') fun _ _ h => h, h.ne, h.ans.below hb, h.hq, h.ho, h.below.trans (hb.mono h.size), Nat.le_trans h.size hb.size, Nat.le_trans h.hi_ hb.size⟩
/-- The tables' answers. -/
def Tells (f : Nat) (y : Int) (a n : Nat) (k : Bool) : Prop := ∀ W, Calls Tryd.prog f #[.int .i64 y] W fun e w' => e = .returned (.tuple #[.int .i64 (a : Nat), .int .i64 (n : Nat), .bool k]) ∧ W = w'

theorem walk_out (ao : Option Addr) (L c : Nat) (a1 a2 a3 a4 : Int) (b n d m : Nat) (k k2 : Bool) (w : World) (hT : Tab w) (hL : L ≤ 9223372036854775807) (h1 : Tells 14 a1 b n k) (h2 : Tells 16 a3 d m k2) (hn : n ≤ 13) (hm : m ≤ 13)
    (h : 600 < L ∨ (L ≤ 600 ∧ k = false) ∨ (L ≤ 600 ∧ k = true ∧ k2 = false) ∨ (L ≤ 600 ∧ k = true ∧ k2 = true ∧ a2 < 0) ∨ (L ≤ 600 ∧ k = true ∧ k2 = true ∧ 0 ≤ a2 ∧ a4 < 0) ∨ (L ≤ 600 ∧ k = true ∧ k2 = true ∧ 0 ≤ a2 ∧ 0 ≤ a4 ∧ ((2 ^ n : Nat) : Int) ≤ a2) ∨ (L ≤ 600 ∧ k = true ∧ k2 = true ∧ 0 ≤ a2 ∧ 0 ≤ a4 ∧ a2 < ((2 ^ n : Nat) : Int) ∧ ((2 ^ m : Nat) : Int) ≤ a4)) :
    Calls Tryd.prog 8 #[.slice ao L c, .int .i64 a1, .int .i64 a2, .int .i64 a3, .int .i64 a4] w fun e w' => e = .returned (.bool true) ∧ Below w.heap.size w w' := by
  have HA := Lib.hid (alive_any w hT)
  have H1 := Lib.hid h1
  have H2 := Lib.hid h2
  obtain ⟨P, hP⟩ : ∃ P, P = 2 ^ n := ⟨_, rfl⟩
  obtain ⟨Q, hQ⟩ : ∃ Q, Q = 2 ^ m := ⟨_, rfl⟩
  rw [← hP, ← hQ] at h
  have hP2 : P ≤ 8192 := by rw [hP]; exact Nat.le_trans (Nat.pow_le_pow_right (by omega) hn) (by decide)
  have hQ2 : Q ≤ 8192 := by rw [hQ]; exact Nat.le_trans (Nat.pow_le_pow_right (by omega) hm) (by decide)
  have q1 : (2 : Int) ^ n = (P : Int) := by rw [hP]; simp
  have q2 : (2 : Int) ^ m = (Q : Int) := by rw [hQ]; simp
  clear hT h1 h2 hP hQ
  rcases h with h | ⟨h0, rfl⟩ | ⟨h0, rfl, rfl⟩ | ⟨h0, rfl, rfl, h3⟩ | ⟨h0, rfl, rfl, h3, h4⟩ | ⟨h0, rfl, rfl, h3, h4, h5⟩ | ⟨h0, rfl, rfl, h3, h4, h5, h6⟩
  · have h' : (600 : Int) < L := by omega
    clear h
    go_enter Tryd.func8, Tryd.ntmps8
    go_wp2_with fail
    refine HA.out.mono ?_
    rintro e w1 ⟨rfl, hb1⟩
    have HB := Lib.hid hb1
    clear hb1
    go_wp2_with fail
    refine (H1.out _).mono ?_
    rintro e w2 ⟨rfl, rfl⟩
    go_wp2_with fail
    refine (H2.out _).mono ?_
    rintro e w2 ⟨rfl, rfl⟩
    go_wp2
    go_ret
    exact ⟨by simp, HB.out⟩
  all_goals
    have g1 : decide ((600 : Int) < L) = false := by simp; omega
    have g2 : decide (600 < L) = false := by simp; omega
    try have g3 : decide (a2 < 0) = false := by simp; omega
    try have g4 : decide (a4 < 0) = false := by simp; omega
    try have g5 : decide ((P : Int) ≤ a2) = false := by simp; omega
    go_enter Tryd.func8, Tryd.ntmps8
    go_wp2_with fail
    refine HA.out.mono ?_
    rintro e w1 ⟨rfl, hb1⟩
    have HB := Lib.hid hb1
    clear hb1
    go_wp2_with fail
    refine (H1.out _).mono ?_
    rintro e w2 ⟨rfl, rfl⟩
    go_wp2_with fail
    refine (H2.out _).mono ?_
    rintro e w2 ⟨rfl, rfl⟩
    go_wp2
    go_ret
    exact ⟨by simp, HB.out⟩

set_option maxHeartbeats 6400000 in
theorem walk_in (ao : Option Addr) (c : Nat) (xs : List Nat) (y e z r b n d m : Nat) (w : World) (hT : Tab w) (h : BySl w (.slice ao xs.length c) xs) (hb : Bs xs) (hl : xs.length ≤ 600) (h1 : lenOf y = some (b, n)) (h2 : disOf z = some (d, m)) (he : e < 2 ^ n) (hr : r < 2 ^ m) :
    Calls Tryd.prog 8 #[.slice ao xs.length c, .int .i64 (y : Nat), .int .i64 (e : Nat), .int .i64 (z : Nat), .int .i64 (r : Nat)] w fun e w' => e = .returned (.bool true) ∧ Below w.heap.size w w' := by
  have HA := Lib.hid (alive_any w hT)
  have HT := Lib.hid hT
  have HS := Lib.hid h
  have HBS := Lib.hid hb
  have T1 := Lib.hid (show Tells 14 (y : Nat) b n true from fun W => by have := Length_any y W; rw [h1] at this; exact this)
  have T2 := Lib.hid (show Tells 16 (z : Nat) d m true from fun W => by have := Distance_any z W; rw [h2] at this; exact this)
  obtain ⟨l1, l2, l3⟩ := len_bd h1
  obtain ⟨m1, m2, m3⟩ := dis_bd h2
  have l4 := len_some h1
  have m4 := dis_some h2
  have HX := Lib.hid fun (bs : List Nat) (hbs : Bs bs) (hs : Str bs 0 (pieces xs y e n z r m)) => infl_fixed (lim := 5000) hbs hb h1 h2 he hr hs (by
    have : e < 32 := Nat.lt_of_lt_of_le he (Nat.le_trans (Nat.pow_le_pow_right (by omega) l3) (by decide))
    omega)
  obtain ⟨P, hP⟩ : ∃ P, P = 2 ^ n := ⟨_, rfl⟩
  obtain ⟨Q, hQ⟩ : ∃ Q, Q = 2 ^ m := ⟨_, rfl⟩
  have he' : e < P := by rw [hP]; exact he
  have hr' : r < Q := by rw [hQ]; exact hr
  have hP2 : P ≤ 32 := by rw [hP]; exact Nat.le_trans (Nat.pow_le_pow_right (by omega) l3) (by decide)
  have hQ2 : Q ≤ 8192 := by rw [hQ]; exact Nat.le_trans (Nat.pow_le_pow_right (by omega) m3) (by decide)
  have q1 : (2 : Int) ^ n = (P : Int) := by rw [hP]; simp
  have q2 : (2 : Int) ^ m = (Q : Int) := by rw [hQ]; simp
  have HE := Lib.hid he
  have HR := Lib.hid hr
  obtain ⟨L, hL⟩ : ∃ L, L = xs.length := ⟨_, rfl⟩
  have HL := Lib.hid hL
  rw [← hL] at hl ⊢
  have g1 : decide ((600 : Int) < L) = false := by simp; omega
  have g2 : decide (600 < L) = false := by simp; omega
  have g5 : decide ((P : Int) ≤ (e : Int)) = false := by simp; omega
  have g6 : decide ((Q : Int) ≤ (r : Int)) = false := by simp; omega
  have g7 : decide (P ≤ e) = false := by simp; omega
  have g8 : decide (Q ≤ r) = false := by simp; omega
  clear hT h hb h1 h2 he hr hP hQ hL
  go_enter Tryd.func8, Tryd.ntmps8
  go_wp2_with fail
  refine HA.out.mono ?_
  rintro e0 w1 ⟨rfl, hb1⟩
  have B1 := Lib.hid hb1
  clear hb1
  go_wp2_with fail
  refine (T1.out _).mono ?_
  rintro e0 w2 ⟨rfl, rfl⟩
  go_wp2_with fail
  refine (T2.out _).mono ?_
  rintro e0 w2 ⟨rfl, rfl⟩
  go_wp2_with fail
  refine (Fixed_any _).mono ?_
  rintro e0 w2 ⟨a1, c1, a2, c2, rfl, i1, i2, b2⟩
  have I1 := Lib.hid i1
  have I2 := Lib.hid i2
  have B2 := Lib.hid (B1.out.on b2)
  clear i1 i2 b2 B1
  go_wp2_with fail
  have hN1 := New_ok a1 c1 fixFZ w2 I1.out fix_vd1 fix_room1
  rw [fixFZ_len] at hN1
  refine hN1.mono ?_
  rintro e0 w3 ⟨p1, rfl, k1, b3⟩
  rw [fixFZ_nat] at k1
  have K1 := Lib.hid k1
  have I2' := Lib.hid (I2.out.below b3)
  have B3 := Lib.hid (B2.out.on b3)
  clear k1 b3 hN1 B2 I1 I2
  go_wp2_with fail
  have hN2 := New_ok a2 c2 fixOZ w3 I2'.out fix_vd2 fix_room2
  rw [fixOZ_len] at hN2
  refine hN2.mono ?_
  rintro e0 w4 ⟨p2, rfl, k2, b4⟩
  rw [fixOZ_nat] at k2
  have K1' := Lib.hid (K1.out.below b4)
  have K2 := Lib.hid k2
  have B4 := Lib.hid (B3.out.on b4)
  clear k2 b4 hN2 B3 K1 I2'
  go_wp2_with fail
  refine (newWriter_any _).mono ?_
  rintro e0 w5 ⟨pw, gw, rfl, ho, ht⟩
  have hB5 : Below w4.heap.size w4 w5 := ht.none_below
  have W5 := Lib.hid (show Wr w5 w4.heap.size pw gw 0 0 from ⟨[], ho, WI.nil, rfl⟩)
  have B5 := Lib.hid hB5
  clear ho ht hB5
  go_wp2_with fail
  refine (W5.out.put (by omega) 3 3 3 (by omega) (by omega) (by decide)).mono ?_
  rintro e0 w6 ⟨rfl, hp⟩
  obtain ⟨g6', hw6, ht6, _⟩ := hp
  have W6 := Lib.hid (show Wr w6 w4.heap.size pw g6' (val [(3, 3)]) (wid [(3, 3)]) from hw6)
  have B6 := Lib.hid (B5.out.trans (ht6.below B5.out.size fun k hk => (W5.out.foot hk).1))
  clear hw6 ht6 W5 B5
  go_wp2_with fail
  have HP0 := Lib.hid (Pw.start (w := w4) (cs := [(3, 3)]) (ho := W6.out) B6.out B6.out.size)
  have CD := Lib.hid fun W (hW : Below w4.heap.size w4 W) => And.intro (K1'.out.below hW) (And.intro (K2.out.below hW) (B4.out.on hW))
  clear W6 B6 K1' K2
  go_loopg [24, 25] 601 (fun gm v vi wr => ∃ (i : Nat) (ao1 : Option Addr) (c1 : Nat) (g : Option Nat), i ≤ L ∧ 601 - i ≤ gm ∧ v = .slice ao1 i c1 ∧ vi = .int .i64 (i : Nat) ∧ Hid (Pw w4.heap.size w4 wr pw g ((3, 3) :: (xs.take i).map (cp fixF)) (.slice ao1 i c1) (xs.take i)))
  case atStart => exact ⟨0, _, _, _, by omega, by omega, rfl, rfl, HP0⟩
  case round =>
    clear HP0
    obtain ⟨i, ao1, cc1, g, hi, hgm, rfl, rfl, HX1⟩ := hrel
    by_cases hlt : i < L
    · have h0 : (i : Int) < L := by omega
      have hi0 : (0 : Int) ≤ i := by omega
      have hlt2 : i < xs.length := by rw [← HL.out]; exact hlt
      obtain ⟨x, hx⟩ : ∃ x, x = xs.getD i 0 := ⟨_, rfl⟩
      have hx8 : x < 256 := by rw [hx]; exact getD_bs HBS.out i
      obtain ⟨bb, off, rfl, hcx⟩ := (HS.out.grow ((CD.out wr HX1.out.below).2.2)).get i hlt2
      rw [← hx] at hcx
      have HTK := Lib.hid (show xs.take (i + 1) = xs.take i ++ [x] by
        rw [List.take_add_one, List.getElem?_eq_getElem hlt2, hx, List.getD_eq_getElem?_getD, List.getElem?_eq_getElem hlt2]; rfl)
      have HTL := Lib.hid (show (xs.take i).length = i by rw [List.length_take]; omega)
      have HWL := Lib.hid (show wid ((3, 3) :: (xs.take i).map (cp fixF)) ≤ 7000000000 by have := wid_cp (xs.take i); rw [HTL.out] at this; simp only [wid]; omega)
      have HXX := Lib.hid hx
      clear hx hlt2
      go_wp2_with fail
      refine (Put_to (CD.out wr HX1.out.below).1 HX1.out.wr_ HWL.out x _ _ (fixF_all x (by omega)) rfl rfl).mono ?_
      rintro e0 w7 ⟨rfl, hp⟩
      obtain ⟨g2', hp2⟩ := HX1.out.put (c := cp fixF x) hp rfl rfl
      have X2 := Lib.hid hp2
      have hcx2 := ((HS.out.grow ((CD.out w7 hp2.below).2.2)).get i (by rw [← HL.out]; exact hlt))
      obtain ⟨bb2, off2, hbe, hcx2⟩ := hcx2
      simp only [Option.some.injEq, Addr.mk.injEq, and_true] at hbe
      obtain ⟨rfl, rfl⟩ := hbe
      rw [← HXX.out] at hcx2
      have X3 := Lib.hid (X2.out.grow ((Below.refl w7.heap.size w7).more (Nat.le_refl _) (.cells #[.int .u8 (x : Nat)] 5)))
      have LIT := Lib.hid (by_lit w7 [x] #[.int .u8 (x : Nat)] 1 _ rfl rfl rfl)
      have E1 := Lib.hid (show (xs.take i ++ [x]).length = i + 1 by rw [List.length_append, HTL.out]; rfl)
      clear hp hp2
      go_wp2_with (refine wpList_append_x rfl (.tmp 123) (.tmp 128) rfl w4.heap.size (.slice ao1 i cc1) (.slice (some ⟨w7.heap.size, 0, none⟩) 1 1) (xs.take i) [x] rfl rfl X3.out.own LIT.out X3.out.size (by rw [HTL.out]; simp; omega) ?_; intro ao5 c5 w8 hA; have X4 := Lib.hid (show Pw w4.heap.size w4 w8 pw g2' ((3, 3) :: (xs.take (i + 1)).map (cp fixF)) (.slice ao5 (i + 1) c5) (xs.take (i + 1)) from by rw [HTK.out, ← E1.out, List.map_append]; exact X3.out.app hA); rw [E1.out]; clear hA)
      go_roundg (601 - (i + 1))
      case measure => omega
      case rel => exact ⟨i + 1, ao5, c5, g2', by omega, Nat.le_refl _, rfl, rfl, X4⟩
    · obtain rfl : i = L := by omega
      have HTA := Lib.hid (show xs.take i = xs from List.take_of_length_le (by rw [← HL.out]; exact Nat.le_refl _))
      rw [HTA.out] at HX1
      have HW0 := Lib.hid (show wid (xs.map (cp fixF)) ≤ 15 * 600 by have := wid_cp xs; rw [← HL.out] at this; omega)
      have hy9 := fixF_all y (by omega)
      have hz9 := fixO_all z (by omega)
      have HY9 := Lib.hid (And.intro hy9 (ln_le fixF_okW.1 y))
      have HZ9 := Lib.hid (And.intro hz9 (ln_le fixO_okW.1 z))
      have e32 : e < 32 := by omega
      clear hi hgm hlt hy9 hz9 HTA
      go_wp2_with fail
      refine (Put_to (CD.out wr HX1.out.below).1 HX1.out.wr_ (by have := HW0.out; simp only [wid]; omega) y _ _ HY9.out.1 rfl rfl).mono ?_
      rintro e0 w7 ⟨rfl, hp⟩
      obtain ⟨g2', hp2⟩ := HX1.out.put (c := cp fixF y) hp rfl rfl
      have X2 := Lib.hid hp2
      clear hp hp2 HX1
      go_wp2_with fail
      refine (X2.out.wr_.put (by have := HW0.out; have := HY9.out.2; simp only [wid, wid_app, cp]; omega) e n e (by omega) (by omega) (Nat.mod_eq_of_lt HE.out)).mono ?_
      rintro e0 w8 ⟨rfl, hp⟩
      obtain ⟨g3, hp2⟩ := X2.out.put (c := (e, n)) hp rfl rfl
      have X3 := Lib.hid hp2
      clear hp hp2 X2
      go_wp2_with fail
      refine (Put_to (CD.out w8 X3.out.below).2.1 X3.out.wr_ (by have := HW0.out; have := HY9.out.2; simp only [wid, wid_app, cp]; omega) z _ _ HZ9.out.1 rfl rfl).mono ?_
      rintro e0 w9 ⟨rfl, hp⟩
      obtain ⟨g4, hp2⟩ := X3.out.put (c := cp fixO z) hp rfl rfl
      have X4 := Lib.hid hp2
      clear hp hp2 X3
      go_wp2_with fail
      refine (X4.out.wr_.put (by have := HW0.out; have := HY9.out.2; have := HZ9.out.2; simp only [wid, wid_app, cp]; omega) r m r (by omega) (by omega) (Nat.mod_eq_of_lt HR.out)).mono ?_
      rintro e0 w10 ⟨rfl, hp⟩
      obtain ⟨g5', hp2⟩ := X4.out.put (c := (r, m)) hp rfl rfl
      have X5 := Lib.hid hp2
      clear hp hp2 X4
      go_wp2_with fail
      refine (Put_to (CD.out w10 X5.out.below).1 X5.out.wr_ (by have := HW0.out; have := HY9.out.2; have := HZ9.out.2; simp only [wid, wid_app, cp]; omega) 256 _ _ (fixF_all 256 (by omega)) rfl rfl).mono ?_
      rintro e0 w11 ⟨rfl, hp⟩
      obtain ⟨g6', hp2⟩ := X5.out.put (c := cp fixF 256) hp rfl rfl
      have X6 := Lib.hid hp2
      clear hp hp2 X5
      go_wp2_with fail
      refine (WrT.out (w := w4) ⟨g6', X6.out.wr_, Touch.of_below X6.out.below⟩ (by have := HW0.out; have := HY9.out.2; have := HZ9.out.2; have := ln_le fixF_okW.1 256; simp only [wid, wid_app, cp]; omega)).mono ?_
      rintro e0 w12 ⟨bs, oa, oc, og, rfl, hbs, hwi, hnum, own12, _, _, _, ht12⟩
      have hstr := HX.out bs hbs (str_pieces (str_out hwi hnum))
      have hbl : bs.length ≤ 100000 := by have := hwi.hi; have := HW0.out; have := HY9.out.2; have := HZ9.out.2; have := ln_le fixF_okW.1 256; simp only [wid, wid_app, cp] at *; omega
      have HST := Lib.hid hstr
      have HBB := Lib.hid hbs
      have SB := Lib.hid (BySl.own own12)
      have b12 := ht12.none_below
      have X7 := Lib.hid (X6.out.grow b12)
      have hs12 := ht12.size
      obtain ⟨D, hD⟩ : ∃ D, D = d + r := ⟨_, rfl⟩
      have sD : (d : Int) + (r : Int) = (D : Int) := by omega
      rw [← hD] at hstr
      clear hstr hbs hwi hnum own12 ht12 b12 X6
      by_cases hlo : i < D
      · have hI : infl bs ((5000 : Int)).toNat = .bad 10 := by
          have := HST.out
          rw [← hD, ← HL.out, if_pos hlo] at this
          exact this
        have HI := Lib.hid hI
        have f1 : (i : Int) < (D : Int) := by omega
        clear hI hD
        go_wp2_with fail
        refine (Inflate_bad (limit := 5000) SB.out HBB.out hbl (by omega) (HT.out.below (CD.out w12 X7.out.below).2.2) HI.out).mono ?_
        rintro e0 w13 ⟨rfl, bel⟩
        have B13 := Lib.hid (((CD.out w12 X7.out.below).2.2.on bel).more (Nat.le_refl _) (.cells #[.slice none 0 0, .int .i64 0, .int .i64 0, .int .i64 0] 35))
        clear bel
        go_wp2
        go_ret
        exact ⟨by simp, B13.out⟩
      · have hI : infl bs ((5000 : Int)).toNat = .ok () ⟨wid (pieces xs y e n z r m), back D (b + e) xs, i + 2, 1⟩ := by
          have := HST.out
          rw [← hD, ← HL.out, if_neg hlo] at this
          exact this
        obtain ⟨T, hTT⟩ : ∃ T, T = b + e := ⟨_, rfl⟩
        have sT : (b : Int) + (e : Int) = (T : Int) := by omega
        have t1 : T ≤ 300 := by omega
        have f1 : ¬ (i : Int) < (D : Int) := by omega
        have f2 : D ≤ i := by omega
        have f3 : 1 ≤ D := by omega
        rw [← hTT] at hI
        obtain ⟨zs, hzs⟩ : ∃ zs, zs = back D T xs := ⟨_, rfl⟩
        have hzl : zs.length = i + T := by rw [hzs, back_len, ← HL.out]
        rw [← hzs] at hI
        obtain ⟨u, hu⟩ : ∃ u, u = (wid (pieces xs y e n z r m) + 7) / 8 := ⟨_, rfl⟩
        obtain ⟨M, hM⟩ : ∃ M, M = zs.length := ⟨_, rfl⟩
        have hM9 : M ≤ 900 := by omega
        have HI := Lib.hid hI
        have HU := Lib.hid hu
        have HMM := Lib.hid hM
        have HZS := Lib.hid hzs
        have HZL := Lib.hid hzl
        have hub : True := trivial
        clear hI hu hM hzs hzl hD hTT hub
        go_wp2_with fail
        refine (Inflate_ok (limit := 5000) (n := M) (u := u) SB.out HBB.out hbl (by omega) (HT.out.below (CD.out w12 X7.out.below).2.2) HI.out HU.out HMM.out).mono ?_
        rintro e0 w13 ⟨ao6, c6, rfl, bel, a6⟩
        have bx := bel.on ((Below.refl w13.heap.size w13).more (Nat.le_refl _) (.cells #[.slice ao6 M c6, .int .i64 (u : Nat), .int .i64 ((i + 2 : Nat) : Nat), .int .i64 ((1 : Nat) : Nat)] 35))
        have X8 := X7.out.grow bx
        have hsz := alloc_size w13 (.cells #[.slice ao6 M c6, .int .i64 (u : Nat), .int .i64 ((i + 2 : Nat) : Nat), .int .i64 ((1 : Nat) : Nat)] 35)
        have KB := Lib.hid (show Bk w4.heap.size w12.heap.size (w13.heap.size + 1) w4 (box4 w13 (.slice ao6 M c6) u (i + 2) 1) (.slice ao1 i cc1) xs w13.heap.size w12.heap.size (.slice ao6 M c6) zs u (i + 2) 1 from
          ⟨X8.own, fun k hk => .inl (X7.out.own.lt k hk).2, a6, ⟨bel.size, Nat.lt_succ_self _⟩, fun k hk => by have := a6.own.lt k hk; rw [hsz] at this; exact this, X8.below, X8.size, Nat.le_of_eq hsz.symm⟩)
        clear bel a6 bx X8 hsz X7 SB HBB HST
        obtain ⟨q5, hq5⟩ : ∃ q, q = w13.heap.size := ⟨_, rfl⟩
        go_wp2
        rw [← hq5] at KB ⊢
        clear hq5
        go_loopg [24, 29] (T + 1) (fun gm v vj wr => ∃ (j N : Nat) (ao7 : Option Addr) (c7 : Nat), j ≤ T ∧ T + 1 - j ≤ gm ∧ v = .slice ao7 N c7 ∧ vj = .int .i64 (j : Nat) ∧ N ≤ i + j ∧ i + j ≤ N ∧ Hid (N = (back D j xs).length) ∧ Hid (Bk w4.heap.size w12.heap.size (q5 + 1) w4 wr (.slice ao7 N c7) (back D j xs) q5 w12.heap.size (.slice ao6 M c6) zs u (i + 2) 1))
        case atStart => exact ⟨0, i, ao1, cc1, by omega, by omega, rfl, rfl, by omega, by omega, HL, KB⟩
        case round =>
          clear KB
          obtain ⟨j, N, ao7, c7, hj, hgm, rfl, rfl, hN1, hN2, HN, HK⟩ := hrel
          by_cases hlt : j < T
          · have h0 : (j : Int) < T := by omega
            obtain ⟨k, hk⟩ : ∃ k, k = N - D := ⟨_, rfl⟩
            have k0 : (N : Int) - (D : Int) = (k : Int) := by omega
            have k1 : (0 : Int) ≤ k := by omega
            have k2 : (k : Int) < N := by omega
            have hown := HK.out.own
            rw [← HN.out] at hown
            obtain ⟨bb, off, rfl, hcx⟩ := (show BySl wr (.slice ao7 N c7) (back D j xs) from BySl.own (by rw [← HN.out]; exact hown)).get k (by rw [← HN.out]; omega)
            obtain ⟨x, hx⟩ : ∃ x, x = (back D j xs).getD k 0 := ⟨_, rfl⟩
            rw [← hx] at hcx
            have HBK := Lib.hid (show back D (j + 1) xs = back D j xs ++ [x] by rw [back_succ, hx, hk, HN.out])
            have E1 := Lib.hid (show (back D j xs ++ [x]).length = N + 1 by rw [List.length_append, ← HN.out]; rfl)
            have K2 := Lib.hid (HK.out.grow ((Below.refl wr.heap.size wr).more (Nat.le_refl _) (.cells #[.int .u8 (x : Nat)] 5)))
            have LIT := Lib.hid (by_lit wr [x] #[.int .u8 (x : Nat)] 1 _ rfl rfl rfl)
            clear hk hx hown
            go_wp2_with (refine wpList_append_x rfl (.tmp 173) (.tmp 181) rfl w4.heap.size (.slice (some ⟨bb, off, none⟩) N c7) (.slice (some ⟨wr.heap.size, 0, none⟩) 1 1) (back D j xs) [x] rfl rfl K2.out.own LIT.out K2.out.size (by rw [← HN.out]; simp; omega) ?_; intro ao8 c8 w8 hA; have K3 := Lib.hid (show Bk w4.heap.size w12.heap.size (q5 + 1) w4 w8 (.slice ao8 (N + 1) c8) (back D (j + 1) xs) q5 w12.heap.size (.slice ao6 M c6) zs u (i + 2) 1 from by rw [HBK.out, ← E1.out]; exact K2.out.app hA); rw [E1.out]; clear hA)
            go_roundg (T + 1 - (j + 1))
            case measure => omega
            case rel => exact ⟨j + 1, N + 1, ao8, c8, by omega, Nat.le_refl _, rfl, rfl, by omega, by omega, Lib.hid (by rw [HBK.out]; exact E1.out.symm), K3⟩
          · obtain rfl : j = T := by omega
            have HK2 := HK.out
            rw [← HZS.out] at HK2
            have hNM : N = M := by rw [HMM.out, HZS.out]; exact HN.out
            rw [hNM] at HK2 ⊢
            have hyo := HK2.own
            rw [← HMM.out] at hyo
            have SY := Lib.hid (show BySl wr (.slice ao7 M c7) zs from BySl.own (by rw [← HMM.out]; exact hyo))
            obtain ⟨x0, x1, x2, x3⟩ := HK2.ans.c
            have HK3 := Lib.hid HK2
            clear HK HK2 hyo hNM HN hN1 hN2
            go_wp2_with fail
            refine (same_any HK3.out.ans.by SY.out (by rw [← HMM.out]; omega)).mono ?_
            rintro e0 w14 ⟨he9, nq, hw⟩
            rw [decide_eq_true rfl] at he9
            subst he9
            have by_ := below_drewN (Below.refl wr.heap.size wr) nq
            rw [← hw] at by_
            obtain ⟨y0, y1, y2, y3⟩ := (HK3.out.ans.below by_).c
            have BE := Lib.hid ((CD.out _ (HK3.out.below.trans (by_.mono HK3.out.size))).2.2)
            clear hw by_ x0 x1 x2 x3
            go_wp2
            go_ret
            exact ⟨by simp, BE.out⟩

theorem len_all (a : Int) : ∃ b n k, Tells 14 a b n k ∧ n ≤ 13 ∧ (k = true → ∃ y : Nat, a = (y : Nat) ∧ lenOf y = some (b, n)) := by
  by_cases h : a < 0
  · exact ⟨0, 0, false, fun W => Length_no a W (by omega), by omega, fun h => by cases h⟩
  · obtain ⟨y, rfl⟩ := Int.eq_ofNat_of_zero_le (show 0 ≤ a by omega)
    cases hx : lenOf y with
    | none => exact ⟨0, 0, false, fun W => by have := Length_any y W; rw [hx] at this; exact this, by omega, fun h => by cases h⟩
    | some x => exact ⟨x.1, x.2, true, fun W => by have := Length_any y W; rw [hx] at this; exact this, by have := len_bd hx; omega, fun _ => ⟨y, rfl, hx⟩⟩
theorem dis_all (a : Int) : ∃ b n k, Tells 16 a b n k ∧ n ≤ 13 ∧ (k = true → ∃ y : Nat, a = (y : Nat) ∧ disOf y = some (b, n)) := by
  by_cases h : a < 0
  · exact ⟨0, 0, false, fun W => Distance_no a W (by omega), by omega, fun h => by cases h⟩
  · obtain ⟨y, rfl⟩ := Int.eq_ofNat_of_zero_le (show 0 ≤ a by omega)
    cases hx : disOf y with
    | none => exact ⟨0, 0, false, fun W => by have := Distance_any y W; rw [hx] at this; exact this, by omega, fun h => by cases h⟩
    | some x => exact ⟨x.1, x.2, true, fun W => by have := Distance_any y W; rw [hx] at this; exact this, by have := dis_bd hx; omega, fun _ => ⟨y, rfl, hx⟩⟩

theorem walk (ao : Option Addr) (c : Nat) (xs : List Nat) (a1 a2 a3 a4 : Int) (w : World) (hT : Tab w) (h : BySl w (.slice ao xs.length c) xs) (hb : Bs xs) (hlm : xs.length ≤ 9223372036854775807) :
    Calls Tryd.prog 8 #[.slice ao xs.length c, .int .i64 a1, .int .i64 a2, .int .i64 a3, .int .i64 a4] w fun e w' => e = .returned (.bool true) ∧ Below w.heap.size w w' := by
  obtain ⟨b, n, k, T1, hn, h1⟩ := len_all a1
  obtain ⟨d, m, k2, T2, hm, h2⟩ := dis_all a3
  by_cases c1 : 600 < xs.length
  · exact walk_out ao _ c a1 a2 a3 a4 b n d m k k2 w hT hlm T1 T2 hn hm (.inl c1)
  have c1' : xs.length ≤ 600 := Nat.le_of_not_lt c1
  cases k with
  | false => exact walk_out ao _ c a1 a2 a3 a4 b n d m _ k2 w hT hlm T1 T2 hn hm (.inr (.inl ⟨c1', rfl⟩))
  | true =>
    cases k2 with
    | false => exact walk_out ao _ c a1 a2 a3 a4 b n d m _ _ w hT hlm T1 T2 hn hm (.inr (.inr (.inl ⟨c1', rfl, rfl⟩)))
    | true =>
      by_cases c2 : a2 < 0
      · exact walk_out ao _ c a1 a2 a3 a4 b n d m _ _ w hT hlm T1 T2 hn hm (.inr (.inr (.inr (.inl ⟨c1', rfl, rfl, c2⟩))))
      have c2' : 0 ≤ a2 := Int.not_lt.1 c2
      by_cases c3 : a4 < 0
      · exact walk_out ao _ c a1 a2 a3 a4 b n d m _ _ w hT hlm T1 T2 hn hm (.inr (.inr (.inr (.inr (.inl ⟨c1', rfl, rfl, c2', c3⟩)))))
      have c3' : 0 ≤ a4 := Int.not_lt.1 c3
      by_cases c4 : ((2 ^ n : Nat) : Int) ≤ a2
      · exact walk_out ao _ c a1 a2 a3 a4 b n d m _ _ w hT hlm T1 T2 hn hm (.inr (.inr (.inr (.inr (.inr (.inl ⟨c1', rfl, rfl, c2', c3', c4⟩))))))
      have c4' : a2 < ((2 ^ n : Nat) : Int) := Int.not_le.1 c4
      by_cases c5 : ((2 ^ m : Nat) : Int) ≤ a4
      · exact walk_out ao _ c a1 a2 a3 a4 b n d m _ _ w hT hlm T1 T2 hn hm (.inr (.inr (.inr (.inr (.inr (.inr ⟨c1', rfl, rfl, c2', c3', c4', c5⟩))))))
      have c5' : a4 < ((2 ^ m : Nat) : Int) := Int.not_le.1 c5
      obtain ⟨y, rfl, hy⟩ := h1 rfl
      obtain ⟨z, rfl, hz⟩ := h2 rfl
      obtain ⟨e, rfl⟩ := Int.eq_ofNat_of_zero_le c2'
      obtain ⟨r, rfl⟩ := Int.eq_ofNat_of_zero_le c3'
      exact walk_in ao c xs y e z r b n d m w hT h hb c1' hy hz (Int.ofNat_lt.1 c4') (Int.ofNat_lt.1 c5')

set_option maxRecDepth 100000 in
theorem lifted (os : Os) (started : os.Started) (H : Type) (enc : TypeId × Value → H) :
    ReturnsInHanded {} Tryd.checked os 8 .any (fun w args => (Rows.inflateFixedSpec.pre enc Tryd.prog Tryd.f8 Rows.inflateFixedRow.domain false w args ∧ laidMetH Tryd.prog laidL w) ∧ sizedMet enc Tryd.prog Tryd.f8 (OpenSpec.ofChange Rows.inflateFixedSpec) false w args)
      (Rows.inflateFixedSpec.post enc Tryd.prog Tryd.f8 false true false false) := by
  refine returnsInHanded_of_change_and (C := Tryd.checked) (X := fun w _ => laidMetH Tryd.prog laidL w) (fun _ _ _ hh h => h.of_heap hh) own started (by kernel_rfl) Tryd.func8
    (ChangeSpec.witness_shaped (enc := enc) (C := Tryd.checked) (os := os) (X := fun w _ => laidMetH Tryd.prog laidL w) false (World.laidAll Tryd.prog os laidL) #[.slice none 0 0, .int .i64 0, .int .i64 0, .int .i64 0, .int .i64 0] 8 (World.laidAll_os _ _ _)
      (World.shaped_of_ZipB (by kernel_rfl) (by kernel_rfl)) (by kernel_rfl) (by kernel_rfl) (by kernel_rfl)
      (by rw [MakeChecks.laidMetH_plain _ _ _ (by kernel_rfl)]; exact laidMet_laidAll _ (by kernel_rfl) (by kernel_rfl))) ?_
  intro W base args ds gs before hval0 hW hcnd _ hL _
  have hval : ∀ (j : Nat) t v, Tryd.f8.params[j]? = some t → args[j]? = some v → Value.okWide Tryd.prog W .any base t v := hval0
  have hW' := hW
  obtain ⟨p, q, hA0, hV, rfl, hfz, hnd⟩ := hW
  have hA : DataW.TrodAll enc Tryd.prog W 0 (fun _ => true) true Tryd.f8.params.toList args.toList ds p := hA0
  rw [Tryd.params8] at hA hval
  obtain ⟨v0, vs0, d0, ds0, p0, q0, hargs, rfl, rfl, h0, r0⟩ := trodAll_cons hA
  obtain ⟨v1, vs1, d1, ds1, p1, q1, rfl, rfl, rfl, h1, r1⟩ := trodAll_cons r0
  obtain ⟨v2, vs2, d2, ds2, p2, q2, rfl, rfl, rfl, h2, r2⟩ := trodAll_cons r1
  obtain ⟨v3, vs3, d3, ds3, p3, q3, rfl, rfl, rfl, h3, r3⟩ := trodAll_cons r2
  obtain ⟨v4, vs4, d4, ds4, p4, q4, rfl, rfl, rfl, h4, r4⟩ := trodAll_cons r3
  obtain ⟨rfl, rfl, rfl⟩ := trodAll_nil r4
  obtain rfl : args = #[v0, v1, v2, v3, v4] := by cases args; simp_all
  obtain ⟨rfl, rfl⟩ := trodVars_none hV
  obtain ⟨a0, len0, cap0, rfl⟩ := okWide_slice Tryd.underlying22 (hval 0 22 v0 rfl rfl)
  have k0 := h0
  have lt0 : ∀ x ∈ p0, x.block < W.heap.size := by obtain ⟨m, hm⟩ := k0; exact DataW.trod_lt m _ _ _ hm
  obtain ⟨xs0, rfl, hb0, hs0, hlc0, hcm0⟩ : ∃ xs : List Nat, xs.length = len0 ∧ Bs xs ∧ BySl W (.slice a0 len0 cap0) xs ∧ len0 ≤ cap0 ∧ cap0 ≤ maxLen := by
    obtain ⟨fuel, hf⟩ := h0
    exact by_open (by simpa [Value.cells] using hf)
  obtain ⟨a1, rfl, rfl, rfl, w1⟩ := open_int Tryd.underlying3 (hval 1 3 v1 rfl rfl) h1
  obtain ⟨a2, rfl, rfl, rfl, w2⟩ := open_int Tryd.underlying3 (hval 2 3 v2 rfl rfl) h2
  obtain ⟨a3, rfl, rfl, rfl, w3⟩ := open_int Tryd.underlying3 (hval 3 3 v3 rfl rfl) h3
  obtain ⟨a4, rfl, rfl, rfl, w4⟩ := open_int Tryd.underlying3 (hval 4 3 v4 rfl rfl) h4
  unfold maxLen at hcm0
  clear hA0 hval0
  refine (walk a0 cap0 xs0 a1 a2 a3 a4 W (tab_of hL) hs0 hb0 (by omega)).mono fun e W' ⟨he, bel⟩ => ?_
  subst he
  exact ⟨_, rfl, _, _, _, [], _, [], hW', trodAll_mk1 (shut_bool Tryd.underlying4 _), (trodAll_cons_mk (Below.trod laidOut (by kernel_rfl) (of_decide_eq_true (by kernel_rfl)) k0 bel lt0) (trodAll_cons_mk (shut_int Tryd.underlying3 w1) (trodAll_cons_mk (shut_int Tryd.underlying3 w2) (trodAll_cons_mk (shut_int Tryd.underlying3 w3) (trodAll_cons_mk (shut_int Tryd.underlying3 w4) trodAll_mk0))))), rfl, bel.frame _, fun h => by cases h⟩

theorem over : Rows.InflateFixedSaid :=
  OpenClaim.holds_of_wide 8 Tryd.f8 rfl rfl rfl rfl rfl rfl rfl ⟨rfl, rfl, rfl, rfl, rfl⟩ rfl rfl rfl rfl rfl (by kernel_rfl) Tryd.func8 (by kernel_rfl)
    (of_decide_eq_true (by kernel_rfl)) (by unfold Func.isWrapper; first | (rw [if_pos (by decide +kernel)]; kernel_rfl) | (rw [if_neg (by decide +kernel)]; exact ⟨rfl, rfl⟩))
    (fun os started H enc _ => lifted os started H enc)

theorem proved : Rows.InflateFixedCardSaid :=
  Claim7.holds_tied_plain_at .later [] [.data] true (true, "92355ac838773404caa423fded1d207c8b642718b7fb2225f8dda74b268a5197") true over (fun _ h => by cases h) (by kernel_rfl) (fun _ h => by cases h) inflateFixed_row_tie rfl ⟨rfl, rfl⟩ (by kernel_rfl) rfl
    (fun f fn hf hfn => by
      obtain rfl : f = 8 := Option.some.inj ((show Tryd.prog.funcNamed "etui/etuilaw06.InflateFixed" = some 8 by kernel_rfl).symm.trans hf) |>.symm
      obtain rfl : fn = Tryd.f8 := (Option.some.inj (Tryd.func8.symm.trans hfn)).symm
      exact ⟨by kernel_rfl, fun j t ht => by
        rw [Tryd.params8] at ht
        have hm : t ∈ [22, 3] := by
          have := Array.mem_of_getElem? ht
          simp at this ⊢
          first | exact this | exact this.symm | omega | (rcases this with rfl | rfl | rfl | rfl | rfl <;> simp) | (rcases this with rfl | rfl <;> simp)
        have hall : ([22, 3].all fun u => !Tryd.prog.wantsStandIn u) = true := by kernel_rfl
        exact (show Tryd.prog.wantsStandIn t = false by simpa using List.all_eq_true.1 hall t hm)⟩)
    (by kernel_rfl)
#print axioms proved
end Go.Proofs.YtnnkegpnjedneaaDoor.inflateFixed

