/-
  Kinds of signs: spans and the closure over them; Char, Blank, Begins, Goes.
-/
import Derived.Test.YtmnkdnlmpgmdgaaDoorC
import Derived.Test.YtmnkdnlmpgmdgaaDoorUa
import Derived.LoopTactic
namespace Go.Proofs.YtmnkdnlmpgmdgaaDoor
open Go.RowKit
set_option maxRecDepth 100000

theorem alloc_size (w : World) (o : Obj) : (w.alloc o).heap.size = w.heap.size + 1 := Array.size_push _
/-- Is a number in one of the spans? -/
def wth (L : List (Int × Int)) (r : Int) : Bool := L.any fun s => decide (s.1 ≤ r) && decide (r ≤ s.2)
theorem wth_nil (r : Int) : wth [] r = false := rfl
theorem wth_drop {L : List (Int × Int)} {k : Nat} (h : k < L.length) (r : Int) : wth (L.drop k) r = ((decide ((L.getD k (0, 0)).1 ≤ r) && decide (r ≤ (L.getD k (0, 0)).2)) || wth (L.drop (k + 1)) r) := by
  have e : L.getD k (0, 0) = L[k] := by simp [List.getD, h]
  rw [wth, List.drop_eq_getElem_cons h, List.any_cons, e]
  rfl
/-- Spans in memory. -/
structure Spn (w : World) (b : Nat) (L : List (Int × Int)) : Prop where
  lt : b < w.heap.size
  fst : ∀ k, k < L.length → w.cell? ⟨b, k * 2, none⟩ = some (.int .i32 (L.getD k (0, 0)).1)
  snd : ∀ k, k < L.length → w.cell? ⟨b, k * 2 + 1, none⟩ = some (.int .i32 (L.getD k (0, 0)).2)
theorem Spn.below {w w' : World} {b : Nat} {L : List (Int × Int)} (h : Spn w b L) (hb : Below w.heap.size w w') : Spn w' b L :=
  ⟨Nat.lt_of_lt_of_le h.lt hb.size, fun k hk => (hb.cell (p := ⟨b, k * 2, none⟩) h.lt).trans (h.fst k hk), fun k hk => (hb.cell (p := ⟨b, k * 2 + 1, none⟩) h.lt).trans (h.snd k hk)⟩

set_option maxHeartbeats 1600000 in
theorem within1_any (r : Int) (p b : Nat) (L : List (Int × Int)) (c : Nat) (w : World) (hl : L.length ≤ 100) (hc : L.length ≤ c) (hp : w.cell? ⟨p, 0, none⟩ = some (.slice (some ⟨b, 0, none⟩) L.length c)) (hs : Spn w b L) :
    Calls Tryd.prog 44 #[.int .i32 r, .pointer (some ⟨p, 0, none⟩)] w fun e w' => e = .returned (.bool (wth L r)) ∧ Below w.heap.size w w' := by
  have HS := Lib.hid hs
  obtain ⟨A, hA⟩ : ∃ A, A = wth L r := ⟨_, rfl⟩
  rw [← hA]
  have HA := Lib.hid hA
  obtain ⟨N, hN⟩ : ∃ N, N = L.length := ⟨_, rfl⟩
  have HN := Lib.hid hN
  rw [← hN] at hp hl hc
  clear hs hA hN
  go_enter Tryd.func44, Tryd.ntmps44
  go_wp2
  go_loopw [8] (fun vi wr => ∃ k : Nat, k ≤ N ∧ vi = .int .i64 k ∧ Below w.heap.size w wr ∧ Hid (A = wth (L.drop k) r)) (fun vi _ => N - (intOf vi).toNat)
  case atStart => exact ⟨0, Nat.zero_le _, rfl, Below.refl _ _, Lib.hid (by rw [HA.out]; rfl)⟩
  case round =>
    obtain ⟨k, hk, rfl, hbw, hrel⟩ := hrel
    have HB := Lib.hid hbw
    clear hbw
    by_cases hlt : k < N
    · have hkk : (k : Int) < N := by omega
      have hs := HS.out.below HB.out
      have c1 := hs.fst k (by rw [← HN.out]; exact hlt)
      have c2 := hs.snd k (by rw [← HN.out]; exact hlt)
      have hst := Lib.hid (hrel.out.trans (wth_drop (by rw [← HN.out]; exact hlt) r))
      obtain ⟨x, hx⟩ : ∃ x, x = (L.getD k (0, 0)).1 := ⟨_, rfl⟩
      obtain ⟨y, hy⟩ : ∃ y, y = (L.getD k (0, 0)).2 := ⟨_, rfl⟩
      rw [← hx] at c1 hst
      rw [← hy] at c2 hst
      clear hx hy hs hrel
      by_cases d1 : x ≤ r
      · by_cases d2 : r ≤ y
        · have HR : Hid (A = true) := Lib.hid (by rw [hst.out]; simp [d1, d2])
          go_wp2
          go_ret
          exact ⟨by rw [HR.out]; rfl, HB.out.alloc (by have := HB.out.size; omega) _⟩
        · have HR : Hid (A = wth (L.drop (k + 1)) r) := Lib.hid (by rw [hst.out]; simp [d2])
          go_wp2
          go_roundw
          case rel => exact ⟨k + 1, by omega, by go_num, HB.out.alloc (by have := HB.out.size; omega) _, HR⟩
          case measure => simp [intOf]; omega
      · have HR : Hid (A = wth (L.drop (k + 1)) r) := Lib.hid (by rw [hst.out]; simp [d1])
        go_wp2
        go_roundw
        case rel => exact ⟨k + 1, by omega, by go_num, HB.out.alloc (by have := HB.out.size; omega) _, HR⟩
        case measure => simp [intOf]; omega
    · obtain rfl : k = N := by omega
      have HR : Hid (A = false) := Lib.hid (by rw [hrel.out, HN.out, List.drop_length]; rfl)
      go_wp2
      go_ret
      exact ⟨by rw [HR.out]; rfl, HB.out⟩
/-- Spans that have just been laid. -/
theorem Spn.made (w : World) (L : List (Int × Int)) (cs : Array Value) (hcs : cs = (L.flatMap fun s => [Value.int .i32 s.1, Value.int .i32 s.2]).toArray) : Spn (w.alloc (.cells cs 50)) w.heap.size L := by
  have key : ∀ (L : List (Int × Int)) (k : Nat), k < L.length → (L.flatMap fun s => [Value.int .i32 s.1, Value.int .i32 s.2])[k * 2]? = some (.int .i32 (L.getD k (0, 0)).1) ∧ (L.flatMap fun s => [Value.int .i32 s.1, Value.int .i32 s.2])[k * 2 + 1]? = some (.int .i32 (L.getD k (0, 0)).2) := by
    intro L
    induction L with
    | nil => intro k h; simp at h
    | cons a t ih =>
      intro k h
      cases k with
      | zero => simp
      | succ k =>
        have := ih k (by simpa using h)
        have e : (k + 1) * 2 = k * 2 + 1 + 1 := by omega
        rw [e, List.flatMap_cons, List.cons_append, List.cons_append, List.nil_append, List.getElem?_cons_succ, List.getElem?_cons_succ, List.getElem?_cons_succ, List.getElem?_cons_succ, List.getD_cons_succ]
        exact this
  refine ⟨by rw [alloc_size]; omega, fun k hk => ?_, fun k hk => ?_⟩
  · rw [World.cell?_alloc_at _ _ _ _ rfl, hcs]
    simpa using (key L k hk).1
  · rw [World.cell?_alloc_at _ _ _ _ rfl, hcs]
    simpa using (key L k hk).2

def charL : List (Int × Int) := [(32, 55295), (9, 10), (13, 13), (57344, 65533), (65536, 1114111)]
def blankL : List (Int × Int) := [(32, 32), (9, 10), (13, 13)]
def beginsL : List (Int × Int) := [(97, 122), (65, 90), (95, 95), (192, 214), (216, 246), (248, 767), (880, 893), (895, 8191), (8204, 8205), (8304, 8591), (11264, 12271), (12289, 55295), (63744, 64975), (65008, 65533), (65536, 983039)]
def goesL : List (Int × Int) := [(48, 57), (45, 46), (183, 183), (768, 879), (8255, 8256)]

/-- A closure over spans. -/
def fnW (p : Nat) : Value := .func (.func 44) #[] #[.pointer (some ⟨p, 0, none⟩)]
structure Clo (w : World) (p : Nat) (L : List (Int × Int)) : Prop where
  run : ∀ w', Below w.heap.size w w' → ∀ r, Calls Tryd.prog 44 #[.int .i32 r, .pointer (some ⟨p, 0, none⟩)] w' fun e w'' => e = .returned (.bool (wth L r)) ∧ Below w'.heap.size w' w''
theorem within_any (b c : Nat) (L : List (Int × Int)) (w : World) (n : Nat) (hn : n = L.length) (hl : L.length ≤ 100) (hc : L.length ≤ c) (hs : Spn w b L) :
    Calls Tryd.prog 37 #[.slice (some ⟨b, 0, none⟩) n c] w fun e w' => ∃ p, e = .returned (fnW p) ∧ Clo w' p L ∧ Below w.heap.size w w' := by
  subst hn
  have hb : Below w.heap.size w (w.alloc (.cells #[.slice (some ⟨b, 0, none⟩) L.length c] 57)) := (Below.refl _ w).alloc (Nat.le_refl _) _
  have HC : Hid (Clo (w.alloc (.cells #[.slice (some ⟨b, 0, none⟩) L.length c] 57)) w.heap.size L) := Lib.hid ⟨fun w' hw' r => within1_any r w.heap.size b L c w' hl hc ((hw'.cell (p := ⟨w.heap.size, 0, none⟩) (show w.heap.size < (w.alloc _).heap.size by rw [alloc_size]; omega)).trans (by rw [World.cell?_alloc_at _ _ _ _ rfl]; rfl)) ((hs.below hb).below hw')⟩
  have HB := Lib.hid hb
  clear hs hb
  go_enter Tryd.func37, Tryd.ntmps37
  go_wp2
  go_ret
  exact ⟨_, rfl, HC.out, HB.out⟩

set_option maxHeartbeats 1600000 in
theorem Char_any (r : Int) (w : World) : Calls Tryd.prog 18 #[.int .i32 r] w fun e w' => e = .returned (.bool (wth charL r)) ∧ Below w.heap.size w w' := by
  have HS := Lib.hid (Spn.made w charL _ rfl)
  have HB := Lib.hid ((Below.refl _ w).alloc (Nat.le_refl _) (.cells (charL.flatMap fun s => [Value.int .i32 s.1, Value.int .i32 s.2]).toArray 50))
  go_enter Tryd.func18, Tryd.ntmps18
  go_wp2_with (first
    | (go_at_call 37; refine (within_any _ 5 charL _ 5 rfl (by decide) (by decide) HS.out).mono ?_; rintro e w1 ⟨p, rfl, hc, hb⟩; have HC := Lib.hid (hc.run w1 (Below.refl _ _)); have HB1 := Lib.hid (HB.out.trans (hb.mono HB.out.size)); clear hc hb; unfold fnW)
    | (go_at_call 44; refine (HC.out r).mono ?_; rintro e w2 ⟨rfl, hb⟩; have HB2 := Lib.hid (HB1.out.trans (hb.mono HB1.out.size)); clear hb))
  go_ret
  exact ⟨rfl, HB2.out⟩

set_option maxHeartbeats 1600000 in
theorem Blank_any (r : Int) (w : World) : Calls Tryd.prog 20 #[.int .i32 r] w fun e w' => e = .returned (.bool (wth blankL r)) ∧ Below w.heap.size w w' := by
  have HS := Lib.hid (Spn.made w blankL _ rfl)
  have HB := Lib.hid ((Below.refl _ w).alloc (Nat.le_refl _) (.cells (blankL.flatMap fun s => [Value.int .i32 s.1, Value.int .i32 s.2]).toArray 50))
  go_enter Tryd.func20, Tryd.ntmps20
  go_wp2_with (first
    | (go_at_call 37; refine (within_any _ 3 blankL _ 3 rfl (by decide) (by decide) HS.out).mono ?_; rintro e w1 ⟨p, rfl, hc, hb⟩; have HC := Lib.hid (hc.run w1 (Below.refl _ _)); have HB1 := Lib.hid (HB.out.trans (hb.mono HB.out.size)); clear hc hb; unfold fnW)
    | (go_at_call 44; refine (HC.out r).mono ?_; rintro e w2 ⟨rfl, hb⟩; have HB2 := Lib.hid (HB1.out.trans (hb.mono HB1.out.size)); clear hb))
  go_ret
  exact ⟨rfl, HB2.out⟩

set_option maxHeartbeats 1600000 in
theorem Begins_any (r : Int) (w : World) : Calls Tryd.prog 22 #[.int .i32 r] w fun e w' => e = .returned (.bool (wth beginsL r)) ∧ Below w.heap.size w w' := by
  have HS := Lib.hid (Spn.made w beginsL _ rfl)
  have HB := Lib.hid ((Below.refl _ w).alloc (Nat.le_refl _) (.cells (beginsL.flatMap fun s => [Value.int .i32 s.1, Value.int .i32 s.2]).toArray 50))
  go_enter Tryd.func22, Tryd.ntmps22
  go_wp2_with (first
    | (go_at_call 37; refine (within_any _ 15 beginsL _ 15 rfl (by decide) (by decide) HS.out).mono ?_; rintro e w1 ⟨p, rfl, hc, hb⟩; have HC := Lib.hid (hc.run w1 (Below.refl _ _)); have HB1 := Lib.hid (HB.out.trans (hb.mono HB.out.size)); clear hc hb; unfold fnW)
    | (go_at_call 44; refine (HC.out r).mono ?_; rintro e w2 ⟨rfl, hb⟩; have HB2 := Lib.hid (HB1.out.trans (hb.mono HB1.out.size)); clear hb))
  go_ret
  exact ⟨rfl, HB2.out⟩

/-- May a name go on with it? -/
def goesP (r : Int) : Bool := wth beginsL r || wth goesL r
set_option maxHeartbeats 1600000 in
theorem Goes_any (r : Int) (w : World) : Calls Tryd.prog 24 #[.int .i32 r] w fun e w' => e = .returned (.bool (goesP r)) ∧ Below w.heap.size w w' := by
  obtain ⟨A, hA⟩ : ∃ A, A = wth beginsL r := ⟨_, rfl⟩
  have HK := Lib.hid (Begins_any r w)
  rw [← hA] at HK
  have HG : Hid (goesP r = (A || wth goesL r)) := Lib.hid (by rw [hA]; rfl)
  obtain ⟨G, hG⟩ : ∃ G, G = goesP r := ⟨_, rfl⟩
  rw [← hG] at HG ⊢
  clear hA hG
  cases A with
  | true =>
    have HR : Hid (G = true) := Lib.hid (by rw [HG.out]; rfl)
    go_enter Tryd.func24, Tryd.ntmps24
    go_wp2_with (go_at_call 22; refine HK.out.mono ?_; rintro e w1 ⟨rfl, hb⟩; have HB1 := Lib.hid hb; clear hb)
    go_ret
    exact ⟨by rw [HR.out]; rfl, HB1.out⟩
  | false =>
    have HR : Hid (G = wth goesL r) := Lib.hid (by rw [HG.out]; rfl)
    go_enter Tryd.func24, Tryd.ntmps24
    go_wp2_with (first
      | (go_at_call 22; refine HK.out.mono ?_; rintro e w0 ⟨rfl, hb⟩; have HB0 := Lib.hid hb; have HS := Lib.hid (Spn.made w0 goesL _ rfl); have HB := Lib.hid (HB0.out.trans (((Below.refl _ w0).alloc (Nat.le_refl _) (.cells (goesL.flatMap fun s => [Value.int .i32 s.1, Value.int .i32 s.2]).toArray 50)).mono HB0.out.size)); clear hb)
      | (go_at_call 37; refine (within_any _ 5 goesL _ 5 rfl (by decide) (by decide) HS.out).mono ?_; rintro e w1 ⟨p, rfl, hc, hb⟩; have HC := Lib.hid (hc.run w1 (Below.refl _ _)); have HB1 := Lib.hid (HB.out.trans (hb.mono HB.out.size)); clear hc hb; unfold fnW)
      | (go_at_call 44; refine (HC.out r).mono ?_; rintro e w2 ⟨rfl, hb⟩; have HB2 := Lib.hid (HB1.out.trans (hb.mono HB1.out.size)); clear hb))
    go_ret
    exact ⟨by rw [HR.out]; rfl, HB2.out⟩
end Go.Proofs.YtmnkdnlmpgmdgaaDoor
