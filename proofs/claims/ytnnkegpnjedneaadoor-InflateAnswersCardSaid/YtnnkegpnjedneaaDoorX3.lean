import Derived.Test.YtnnkegpnjedneaaDoorX2

/-
  The reference's Room; integers copied, and compared.
-/
namespace Go.Proofs.YtnnkegpnjedneaaDoor
open Go.RowKit
set_option maxRecDepth 100000

/-- The room, symbol by symbol. -/
def part1 (x : Nat) : Nat := if x = 0 then 0 else 2 ^ (15 - x)
def rsum (l : List Nat) : Nat := (l.map part1).sum
theorem rsum_app (l : List Nat) (x : Nat) : rsum (l ++ [x]) = rsum l + part1 x := by simp [rsum]
theorem cn_app (l : List Nat) (x n : Nat) : cn (l ++ [x]) n = cn l n + if n = x ∧ n ≠ 0 then 1 else 0 := by
  unfold cn
  by_cases h0 : n = 0
  · simp [h0]
  · rw [if_neg h0, if_neg h0, List.count_append, List.count_singleton]
    by_cases h : n = x
    · simp [h]; intro e; omega
    · simp [h, Ne.symm h]
theorem sp_app (l : List Nat) (x n : Nat) : sp (l ++ [x]) n = sp l n + if x < n then part1 x else 0 := by
  induction n with
  | zero => simp [sp]
  | succ n ih =>
    rw [sp, sp, ih, cn_app, Nat.add_mul]
    by_cases h : n = x
    · subst h
      rw [if_neg (Nat.lt_irrefl n), if_pos (Nat.lt_succ_self n)]
      by_cases h0 : n = 0
      · rw [if_neg (show ¬ (n = n ∧ n ≠ 0) from fun e => e.2 h0), Nat.zero_mul]
        unfold part1
        rw [if_pos h0]
        omega
      · rw [if_pos ⟨rfl, h0⟩, Nat.one_mul]
        unfold part1
        rw [if_neg h0]
        omega
    · rw [if_neg (show ¬ (n = x ∧ n ≠ 0) from fun e => h e.1), Nat.zero_mul]
      by_cases h2 : x < n
      · rw [if_pos h2, if_pos (show x < n + 1 by omega)]
        omega
      · rw [if_neg h2, if_neg (show ¬ x < n + 1 by omega)]
        omega
theorem sp_nil (n : Nat) : sp [] n = 0 := by
  induction n with
  | zero => rfl
  | succ n ih => rw [sp, ih]; simp [cn]
theorem room_rsum (l : List Nat) (h : ∀ x ∈ l, x ≤ 15) : room l = rsum l := by
  have key : ∀ k, k ≤ l.length → sp (l.take k) 16 = rsum (l.take k) := by
    intro k
    induction k with
    | zero => intro _; rw [List.take_zero, sp_nil]; rfl
    | succ k ih =>
      intro hk
      rw [List.take_succ_eq_append_getElem (by omega), sp_app, rsum_app, ih (by omega), if_pos]
      have := h _ (List.getElem_mem (show k < l.length by omega))
      omega
  have := key l.length (Nat.le_refl _)
  rwa [List.take_length] at this
theorem part1_le (x : Nat) : part1 x ≤ 32768 := by
  unfold part1
  split
  · omega
  · have : 2 ^ (15 - x) ≤ 2 ^ 15 := Nat.pow_le_pow_right (by omega) (by omega)
    omega
theorem rsum_le (l : List Nat) : rsum l ≤ l.length * 32768 := by
  unfold rsum
  induction l with
  | nil => simp
  | cons x r ih => have := part1_le x; simp only [List.map_cons, List.sum_cons, List.length_cons]; omega

def RoomTo (zs : List Int) (w : World) (e : Ending) (w' : World) : Prop := w = w' ∧ (Vd zs → e = .returned (.tuple #[.int .i64 (room (nat zs) : Nat), .bool true])) ∧ (¬ Vd zs → e = .returned (.tuple #[.int .i64 0, .bool false]))

theorem rtake {zs : List Int} {k : Nat} {x : Nat} (hk : k < zs.length) (hx : zs.getD k 0 = (x : Int)) : rsum (nat (zs.take (k + 1))) = rsum (nat (zs.take k)) + part1 x := by
  rw [List.take_succ_eq_append_getElem hk, show zs[k] = (x : Int) by rw [← hx]; simp [List.getD, hk], nat, List.map_append]
  exact rsum_app _ _
theorem shr_part {x : Nat} (h1 : 1 ≤ x) (h15 : x ≤ 15) : (32768 : Int) / 2 ^ x = (part1 x : Nat) := by
  unfold part1
  rw [if_neg (by omega)]
  exact shr_pow x (by omega)

set_option maxHeartbeats 1600000 in
theorem rroom_any (ao : Option Addr) (c : Nat) (zs : List Int) (w : World) (h : IS w ao zs) :
    Calls Tryd.prog 58 #[.slice ao zs.length c] w (RoomTo zs w) := by
  have HI := Lib.hid h
  clear h
  by_cases hl : 320 < zs.length
  · have hl' : (320 : Int) < zs.length := by omega
    go_enter Tryd.func58, Tryd.ntmps58
    go_wp2
    go_ret2
    exact ⟨rfl, fun v => absurd v.len (by omega), fun _ => rfl⟩
  · have hl' : (zs.length : Int) ≤ 320 := by omega
    go_enter Tryd.func58, Tryd.ntmps58
    go_wp2
    go_loop [4, 5] (fun nv iv => ∃ k : Nat, k ≤ zs.length ∧ iv = .int .i64 k ∧ nv = .int .i64 (rsum (nat (zs.take k)) : Nat) ∧ ∀ j, j < k → 0 ≤ zs.getD j 0 ∧ zs.getD j 0 ≤ 15) (fun _ iv => zs.length - (intOf iv).toNat)
    case atStart => exact ⟨0, Nat.zero_le _, rfl, rfl, fun j hj => absurd hj (Nat.not_lt_zero j)⟩
    case round =>
      obtain ⟨k, hk, rfl, rfl, hgood⟩ := hrel
      have HG := Lib.hid hgood
      clear hgood
      by_cases hlt : k < zs.length
      · have hkk : (k : Int) < zs.length := by omega
        obtain ⟨b, off, rfl, hcell⟩ := HI.out.at hlt
        obtain ⟨x, hx⟩ : ∃ x, x = zs.getD k 0 := ⟨_, rfl⟩
        have HX := Lib.hid hx
        rw [← hx] at hcell
        clear hx
        by_cases hbad : x < 0 ∨ 15 < x
        · have hno : Hid (¬ Vd zs) := Lib.hid fun v => by
            have := v.all _ (getD_mem hlt)
            rw [← HX.out] at this
            omega
          rcases hbad with hbad | hbad
          · go_wp2
            go_ret2
            exact ⟨rfl, fun v => absurd v hno.out, fun _ => rfl⟩
          · have hpos : 0 ≤ x := by omega
            go_wp2
            go_ret2
            exact ⟨rfl, fun v => absurd v hno.out, fun _ => rfl⟩
        · obtain ⟨n, rfl⟩ : ∃ n : Nat, x = (n : Int) := ⟨x.toNat, by omega⟩
          have hn : n ≤ 15 := by omega
          have h1 : decide ((n : Int) < 0) = false := by simp
          have h2 : decide (15 < (n : Int)) = false := by simp; omega
          have HS := Lib.hid (rtake hlt HX.out.symm)
          have hb1 := rsum_le (nat (zs.take k))
          rw [nat_len, List.length_take] at hb1
          obtain ⟨z, hz⟩ : ∃ z, z = rsum (nat (zs.take k)) := ⟨_, rfl⟩
          have HZ := Lib.hid hz
          rw [← hz] at hb1 ⊢
          clear hz hbad
          by_cases h0 : n = 0
          · subst h0
            go_wp2
            go_round
            case rel =>
              refine ⟨k + 1, by omega, by go_num, by rw [HS.out, ← HZ.out]; rfl, fun j hj => ?_⟩
              by_cases e : j = k
              · subst e; rw [← HX.out]; omega
              · exact HG.out j (by omega)
            case measure => simp [intOf]; omega
          · have h3 : decide (0 < (n : Int)) = true := by simp; omega
            have hp := part1_le n
            have e1 := shr_part (show 1 ≤ n by omega) hn
            go_wp2
            go_round
            case rel =>
              refine ⟨k + 1, by omega, by go_num, by rw [HS.out, ← HZ.out]; go_num, fun j hj => ?_⟩
              by_cases e : j = k
              · subst e; rw [← HX.out]; omega
              · exact HG.out j (by omega)
            case measure => simp [intOf]; omega
      · have hk' : k = zs.length := by omega
        subst hk'
        go_wp2
        go_ret2
        have HV : Vd zs := ⟨by omega, fun z hz => by
          obtain ⟨j, hj, rfl⟩ := List.getElem_of_mem hz
          have := HG.out j hj
          simpa [List.getD, hj] using this⟩
        refine ⟨rfl, fun _ => ?_, fun v => absurd HV v⟩
        rw [room_rsum (nat zs) (fun x hx => by
          obtain ⟨z, hz, rfl⟩ := List.mem_map.1 hx
          have := HV.all z hz
          omega)]
        rfl

/-! ### Integers copied and compared -/
def Copied (zs : List Int) (w : World) (e : Ending) (w' : World) : Prop := ∃ ao c, e = .returned (.slice ao zs.length c) ∧ IS w' ao zs ∧ Below w.heap.size w w'
set_option maxHeartbeats 800000 in
theorem same_ints (a b : Option Addr) (c d : Nat) (zs : List Int) (w : World) (h : IS w a zs) (h2 : IS w b zs) (hl : zs.length ≤ 1000) :
    Calls Tryd.prog 20 #[.slice a zs.length c, .slice b zs.length d] w fun e w' => e = .returned (.bool true) ∧ ∃ q, w' = w.drewN q := by
  have H1 := Lib.hid h
  have H2 := Lib.hid h2
  clear h h2
  have hnn : ((zs.length : Int) != zs.length) = false := by simp
  go_enter Tryd.func20, Tryd.ntmps20
  go_wp2
  go_loopw [5] (fun i wr => ∃ k q : Nat, k ≤ zs.length ∧ i = .int .i64 k ∧ wr = w.drewN q) (fun i _ => zs.length - (intOf i).toNat)
  case atStart => exact ⟨0, 0, Nat.zero_le _, rfl, rfl⟩
  case round =>
    obtain ⟨k, q, hk, rfl, rfl⟩ := hrel
    by_cases hlt : k < zs.length
    · have hkk : (k : Int) < zs.length := by omega
      obtain ⟨b1, o1, rfl, c1⟩ := H1.out.at hlt
      obtain ⟨b2, o2, rfl, c2⟩ := H2.out.at hlt
      obtain ⟨x, hx⟩ : ∃ x, x = zs.getD k 0 := ⟨_, rfl⟩
      rw [← hx] at c1 c2
      clear hx
      have hxx : (x != x) = false := by simp
      go_wp2
      go_quiet (fail)
      go_wp2
      go_roundw
      case rel => exact ⟨k + 1, _, by omega, by go_num, rfl⟩
      case measure => simp [intOf]; omega
    · have hk' : k = zs.length := by omega
      subst hk'
      go_wp2
      go_ret
      exact ⟨rfl, _, rfl⟩
end Go.Proofs.YtnnkegpnjedneaaDoor


/-
  The reference's code in memory: a list of rows of bits.
-/
namespace Go.Proofs.YtnnkegpnjedneaaDoor
open Go.RowKit
set_option maxRecDepth 100000

/-- The bits of a symbol's code, the first one first. -/
def cb (ls : List Nat) (s : Nat) : List Nat := (List.range (ln ls s)).map fun j => cd ls s / 2 ^ (ln ls s - 1 - j) % 2
theorem cb_len (ls : List Nat) (s : Nat) : (cb ls s).length = ln ls s := by simp [cb]
theorem cb_at (ls : List Nat) (s j : Nat) (h : j < ln ls s) : (cb ls s).getD j 0 = cd ls s / 2 ^ (ln ls s - 1 - j) % 2 := by simp [cb, List.getD, h]
theorem cb_bs (ls : List Nat) (s : Nat) : Bs (cb ls s) := fun x hx => by
  obtain ⟨j, _, rfl⟩ := List.mem_map.1 hx
  omega
theorem cb_take (ls : List Nat) (s j : Nat) (h : j < ln ls s) : (cb ls s).take (j + 1) = (cb ls s).take j ++ [cd ls s / 2 ^ (ln ls s - 1 - j) % 2] := by
  rw [List.take_succ_eq_append_getElem (by rw [cb_len]; exact h)]
  simp [cb]

/-- The reference's code, while its rows grow. -/
structure Rw (w : World) (pr gl N rm : Nat) (F : Nat → Value) (X : Nat → List Nat) (wr : World) : Prop where
  c : Blk wr pr 106 #[.slice (some ⟨gl, 0, none⟩) N N, .int .i64 (rm : Nat)]
  l : Blk wr gl 22 (va N F)
  rows : ∀ s, s < N → wr.ownsRow w.heap.size 5 1 (F s) (X s).length (u8s (X s))
  ap : ∀ s t k, s < N → t < N → s ≠ t → (F s).ownBlock = some k → (F t).ownBlock ≠ some k
  off : ∀ s k, s < N → (F s).ownBlock = some k → k ≠ pr ∧ k ≠ gl
  ne : pr ≠ gl
  below : Below w.heap.size w wr
  lo : w.heap.size ≤ pr ∧ w.heap.size ≤ gl

theorem Rw.put {w wr w1 : World} {pr gl N rm : Nat} {F : Nat → Value} {X : Nat → List Nat} (h : Rw w pr gl N rm F X wr) {s : Nat} (hs : s < N) {o : Obj} {bit : Nat} {v' : Value} (hA : Apd (wr.alloc o).drew w.heap.size (F s) (X s ++ [bit]) v' w1) :
    Rw w pr gl N rm (fun t => if t = s then v' else F t) (fun t => if t = s then X s ++ [bit] else X t) (w1.setCell ⟨gl, s, none⟩ v') := by
  have t1 : Touch (fun k => (F s).ownBlock = some k) wr w1 := (((Touch.refl _ wr).alloc o).drew).trans hA.touch
  have t2 : Touch (fun k => k = gl) w1 (w1.setCell ⟨gl, s, none⟩ v') := (Touch.refl _ _).setCell _ _ (.inl rfl)
  have hc := h.c.touch t1 (fun e => (h.off s _ hs e).1 rfl)
  have hl := h.l.touch t1 (fun e => (h.off s _ hs e).2 rfl)
  have hv : ∀ k, v'.ownBlock = some k → k ≠ pr ∧ k ≠ gl := fun k hk => by
    rcases hA.row k hk with h1 | h1
    · exact h.off s k hs h1
    · have h2 := h.c.lt
      have h3 := h.l.lt
      have h4 : wr.heap.size ≤ k := by
        have : (wr.alloc o).drew.heap.size = wr.heap.size + 1 := by simp [World.drew]
        omega
      omega
  have hB : w.heap.size ≤ wr.heap.size := h.below.size
  refine ⟨hc.touch t2 h.ne, ?_, fun t ht => ?_, fun a b k ha hb hab hk => ?_, fun t k ht hk => ?_, h.ne, ?_, h.lo⟩
  · have := hl.setCell s v'
    rwa [va_set] at this
  · show (w1.setCell ⟨gl, s, none⟩ v').ownsRow _ 5 1 (if t = s then v' else F t) (if t = s then X s ++ [bit] else X t).length (u8s (if t = s then X s ++ [bit] else X t))
    by_cases e : t = s
    · subst e
      rw [if_pos rfl, if_pos rfl]
      exact ownsRow_touch hA.own t2 (fun k hk e => (hv k hk).2 e)
    · rw [if_neg e, if_neg e]
      refine ownsRow_touch (ownsRow_touch (h.rows t ht) t1 (fun k hk hk2 => h.ap t s k ht hs e hk hk2)) t2 (fun k hk e2 => (h.off t k ht hk).2 e2)
  · have hk' : (if a = s then v' else F a).ownBlock = some k := hk
    show (if b = s then v' else F b).ownBlock ≠ some k
    intro hk2
    by_cases ea : a = s
    · rw [if_pos ea] at hk'
      have eb : b ≠ s := fun e => hab (ea.trans e.symm)
      rw [if_neg eb] at hk2
      rcases hA.row k hk' with h1 | h1
      · exact h.ap s b k hs hb (fun e => eb e.symm) h1 hk2
      · have h2 := (h.rows b hb).lt k hk2
        have : (wr.alloc o).drew.heap.size = wr.heap.size + 1 := by simp [World.drew]
        omega
    · rw [if_neg ea] at hk'
      by_cases eb : b = s
      · rw [if_pos eb] at hk2
        rcases hA.row k hk2 with h1 | h1
        · exact h.ap a s k ha hs ea hk' h1
        · have h2 := (h.rows a ha).lt k hk'
          have : (wr.alloc o).drew.heap.size = wr.heap.size + 1 := by simp [World.drew]
          omega
      · rw [if_neg eb] at hk2
        exact h.ap a b k ha hb hab hk' hk2
  · have hk' : (if t = s then v' else F t).ownBlock = some k := hk
    by_cases e : t = s
    · rw [if_pos e] at hk'; exact hv k hk'
    · rw [if_neg e] at hk'; exact h.off t k ht hk'
  · exact (h.below.trans (t1.below hB fun k hk => ((h.rows s hs).lt k hk).1)).setCell (by show w.heap.size ≤ gl; exact h.lo.2) _

/-- The reference's code of these lengths stands at p. -/
def RAt (w : World) (p : Nat) (ls : List Nat) : Prop :=
  ∃ (gl rm : Nat) (F : Nat → Value), w.cell? ⟨p, 0, none⟩ = some (.slice (some ⟨gl, 0, none⟩) ls.length ls.length) ∧ w.cell? ⟨p, 1, none⟩ = some (.int .i64 (rm : Nat)) ∧
    ∀ s, s < ls.length → w.cell? ⟨gl, s, none⟩ = some (F s) ∧ BySl w (F s) (cb ls s)
end Go.Proofs.YtnnkegpnjedneaaDoor


/-
  Contract of the reference's New.
-/
namespace Go.Proofs.YtnnkegpnjedneaaDoor
open Go.RowKit
set_option maxRecDepth 100000

theorem rroom_yes (ao : Option Addr) (c : Nat) (zs : List Int) (w : World) (h : IS w ao zs) (hv : Vd zs) :
    Calls Tryd.prog 58 #[.slice ao zs.length c] w fun e w' => e = .returned (.tuple #[.int .i64 (room (nat zs) : Nat), .bool true]) ∧ w = w' :=
  (rroom_any ao c zs w h).mono fun _ _ k => ⟨k.2.1 hv, k.1⟩
theorem rroom_no (ao : Option Addr) (c : Nat) (zs : List Int) (w : World) (h : IS w ao zs) (hv : ¬ Vd zs) :
    Calls Tryd.prog 58 #[.slice ao zs.length c] w fun e w' => e = .returned (.tuple #[.int .i64 0, .bool false]) ∧ w = w' :=
  (rroom_any ao c zs w h).mono fun _ _ k => ⟨k.2.2 hv, k.1⟩

theorem rnew_range (ao : Option Addr) (c : Nat) (zs : List Int) (w : World) (h : IS w ao zs) (hv : ¬ Vd zs) :
    Calls Tryd.prog 45 #[.slice ao zs.length c] w fun e w' => e = .returned (.tuple #[.pointer none, .int .i64 11]) ∧ w = w' := by
  have HI := Lib.hid h
  have HV := Lib.hid hv
  clear h hv
  go_enter Tryd.func45, Tryd.ntmps45
  go_wp2_with (go_at_call 58; (refine (rroom_no ao c zs _ HI.out HV.out).mono ?_); rintro e w1 ⟨rfl, rfl⟩)
  go_ret2
  exact ⟨rfl, rfl⟩
theorem rnew_form (ao : Option Addr) (c : Nat) (zs : List Int) (w : World) (h : IS w ao zs) (hv : Vd zs) (hm : 32768 < room (nat zs)) :
    Calls Tryd.prog 45 #[.slice ao zs.length c] w fun e w' => e = .returned (.tuple #[.pointer none, .int .i64 10]) ∧ w = w' := by
  have HI := Lib.hid h
  have HV := Lib.hid hv
  have hm' : (32768 : Int) < (room (nat zs) : Nat) := by omega
  clear h hv
  go_enter Tryd.func45, Tryd.ntmps45
  go_wp2_with (go_at_call 58; (refine (rroom_yes ao c zs _ HI.out HV.out).mono ?_); rintro e w1 ⟨rfl, rfl⟩)
  go_ret2
  exact ⟨rfl, rfl⟩

/-- Which rows are whole when the symbol s of length l is next. -/
def done (ls : List Nat) (l s t : Nat) : List Nat := if ln ls t < l ∨ (ln ls t = l ∧ t < s) then cb ls t else []
theorem cb_zero {ls : List Nat} {t : Nat} (h : ln ls t = 0) : cb ls t = [] := by simp [cb, h]
theorem done_start (ls : List Nat) : done ls 1 0 = fun _ => [] := by
  funext t
  unfold done
  split
  · rename_i h
    exact cb_zero (by omega)
  · rfl
theorem done_next (ls : List Nat) (l N : Nat) (h : ls.length ≤ N) (t : Nat) : done ls (l + 1) 0 t = done ls l N t := by
  unfold done
  by_cases h1 : ln ls t < l
  · rw [if_pos (by omega), if_pos (by omega)]
  · by_cases h2 : ln ls t = l
    · by_cases h3 : t < N
      · rw [if_pos (by omega), if_pos (by omega)]
      · have h0 : ln ls t = 0 := by unfold ln; simp [List.getD, show ls.length ≤ t by omega]
        rw [if_pos (by omega), if_neg (by omega), cb_zero h0]
    · rw [if_neg (by omega), if_neg (by omega)]
theorem done_same {ls : List Nat} {l s : Nat} (h : ln ls s ≠ l) : done ls l (s + 1) = done ls l s := by
  funext t
  unfold done
  by_cases e : t = s
  · subst e; simp [h]
  · by_cases h2 : t < s
    · simp [h2, show t < s + 1 by omega]
    · simp [h2, show ¬ t < s + 1 by omega]
theorem done_step {ls : List Nat} {l s : Nat} (h : ln ls s = l) : done ls l (s + 1) = fun t => if t = s then cb ls s else done ls l s t := by
  funext t
  unfold done
  by_cases e : t = s
  · subst e; rw [if_pos rfl, if_pos (by omega)]
  · rw [if_neg e]
    by_cases h2 : t < s
    · simp [h2, show t < s + 1 by omega]
    · simp [h2, show ¬ t < s + 1 by omega]
theorem done_at {ls : List Nat} {l s : Nat} (h : ln ls s = l) : done ls l s s = [] := by
  unfold done
  rw [if_neg (by omega)]
theorem done_all {ls : List Nat} (H : Ok ls) : done ls 16 0 = cb ls := by
  funext t
  unfold done
  have := ln_le H t
  rw [if_pos (by omega)]
theorem code_step {ls : List Nat} {s l : Nat} (hs : s < ls.length) : (ls.take (s + 1)).count l = (ls.take s).count l + if ln ls s = l then 1 else 0 := by
  rw [take_succ_ln hs, List.count_append, List.count_singleton]
  by_cases h : ln ls s = l <;> simp [h]

theorem sz (n : Nat) : va (n * 1) (fun i => (Value.slice none 0 0).cells[i % (Value.slice none 0 0).cells.size]!) = va n (fun _ => .slice none 0 0) := by
  rw [Nat.mul_one]
  refine va_congr fun i _ => ?_
  show #[Value.slice none 0 0][i % 1]! = _
  rw [Nat.mod_one]
  rfl

theorem and_one (i : Nat) (hi : i < 4294967296) : bits BinOp.and IntKind.i64 (i : Int) 1 = ((i % 2 : Nat) : Int) := by
  have h := bits_mask .i64 32 (by decide) (fun n h0 h1 => by rw [show (2 : Int) ^ 32 = 4294967296 by decide] at h1; rw [IntKind.wrap_i64]; omega) 1 (by decide) (i : Int) (by omega) (by rw [show (2 : Int) ^ 32 = 4294967296 by decide]; omega)
  have e : ((2 : Int) ^ 1 - 1) = 1 := by decide
  rw [e] at h
  rw [h]
  omega

theorem Rw.mid {w wr w1 : World} {pr gl N rm : Nat} {F : Nat → Value} {X : Nat → List Nat} (h : Rw w pr gl N rm F X wr) {s : Nat} (hs : s < N) {o : Obj} {xs : List Nat} {v' : Value} (hA : Apd (wr.alloc o).drew w.heap.size (F s) xs v' w1) :
    w1.cell? ⟨pr, 0, none⟩ = some (.slice (some ⟨gl, 0, none⟩) N N) ∧ w1.cell? ⟨gl, s, none⟩ = some (F s) ∧ w1.frozen? ⟨gl, s, none⟩ = false := by
  have t1 : Touch (fun k => (F s).ownBlock = some k) wr w1 := (((Touch.refl _ wr).alloc o).drew).trans hA.touch
  have hc := h.c.touch t1 (fun e => (h.off s _ hs e).1 rfl)
  have hl := h.l.touch t1 (fun e => (h.off s _ hs e).2 rfl)
  exact ⟨(hc.cell 0).trans rfl, (hl.cell s).trans (va_at _ _ s hs), hl.free s⟩

/-- The head of the outer loop: the length l, and the number that stands in 'code'. -/
def RNew (w : World) (pr gl N rm : Nat) (ls : List Nat) (l s : Nat) (wr : World) : Prop := ∃ F, Rw w pr gl N rm F (done ls l s) wr
/-- The head of the innermost loop: j bits of s are there. -/
def RBit (w : World) (pr gl N rm : Nat) (ls : List Nat) (l s j : Nat) (wr : World) : Prop := ∃ F, Rw w pr gl N rm F (fun t => if t = s then (cb ls s).take j else done ls l s t) wr
theorem RNew.bit {w wr : World} {pr gl N rm l s : Nat} {ls : List Nat} (h : RNew w pr gl N rm ls l s wr) (hs : ln ls s = l) : RBit w pr gl N rm ls l s 0 wr := by
  obtain ⟨F, h⟩ := h
  have e : done ls l s = fun t => if t = s then (cb ls s).take 0 else done ls l s t := by
    funext t
    by_cases e : t = s
    · subst e; rw [if_pos rfl, done_at hs]; rfl
    · rw [if_neg e]
  rw [e] at h
  exact ⟨F, h⟩
theorem RBit.whole {w wr : World} {pr gl N rm l s : Nat} {ls : List Nat} (h : RBit w pr gl N rm ls l s l wr) (hs : ln ls s = l) : RNew w pr gl N rm ls l (s + 1) wr := by
  obtain ⟨F, h⟩ := h
  rw [List.take_of_length_le (by rw [cb_len]; omega), ← done_step hs] at h
  exact ⟨F, h⟩

theorem rbit_put {w wr w2 : World} {pr gl N rm n s j B : Nat} {ls : List Nat} {F : Nat → Value} {o : Obj} {v' : Value} (h : Rw w pr gl N rm F (fun t => if t = s then (cb ls s).take j else done ls n s t) wr) (hs : s < N) (hn : ln ls s = n) (hj : j < n) (hB : B = cd ls s / 2 ^ (ln ls s - 1 - j) % 2)
    (hA : Apd (wr.alloc o).drew w.heap.size (F s) ((cb ls s).take j ++ [B]) v' w2) : RBit w pr gl N rm ls n s (j + 1) (w2.setCell ⟨gl, s, none⟩ v') := by
  have h1 := h.put hs (bit := B) (v' := v') (o := o) (w1 := w2) (by
    show Apd _ _ _ ((if s = s then (cb ls s).take j else done ls n s s) ++ [B]) _ _
    rw [if_pos rfl]; exact hA)
  have e : (fun t => if t = s then (cb ls s).take (j + 1) else done ls n s t) = fun t => if t = s then (if s = s then (cb ls s).take j else done ls n s s) ++ [B] else if t = s then (cb ls s).take j else done ls n s t := by
    funext t
    by_cases e : t = s
    · rw [if_pos e, if_pos e, if_pos rfl, cb_take ls s j (by omega), hB]
    · rw [if_neg e, if_neg e, if_neg e]
  refine ⟨fun t => if t = s then v' else F t, ?_⟩
  rw [e]
  exact h1

theorem Rw.old {w wr w2 : World} {pr gl N rm : Nat} {F : Nat → Value} {X : Nat → List Nat} (h : Rw w pr gl N rm F X wr) (ht : Touch (fun k => k < w.heap.size) wr w2) :
    Blk w2 pr 106 #[.slice (some ⟨gl, 0, none⟩) N N, .int .i64 (rm : Nat)] ∧ Blk w2 gl 22 (va N F) ∧ ∀ s, s < N → w2.ownsRow w.heap.size 5 1 (F s) (X s).length (u8s (X s)) :=
  ⟨h.c.touch ht (by have := h.lo; omega), h.l.touch ht (by have := h.lo; omega), fun s hs => ownsRow_touch (h.rows s hs) ht fun k hk e => by have := ((h.rows s hs).lt k hk).1; omega⟩
/-- What New makes; it stays while only elder blocks change. -/
def RNewTo (w : World) (ls : List Nat) (e : Ending) (w' : World) : Prop := ∃ p, e = .returned (.tuple #[.pointer (some ⟨p, 0, none⟩), .int .i64 0]) ∧
  (∀ w2, Touch (fun k => k < w.heap.size) w' w2 → RAt w2 p ls ∧ w2.cell? ⟨p, 1, none⟩ = some (.int .i64 (room ls : Nat))) ∧ Below w.heap.size w w'

set_option maxRecDepth 100000 in
set_option maxHeartbeats 6400000 in
theorem rnew_ok (ao : Option Addr) (c : Nat) (zs : List Int) (ls : List Nat) (w : World) (h : IS w ao zs) (hv : Vd zs) (H : Ok ls) (hls : nat zs = ls) :
    Calls Tryd.prog 45 #[.slice ao zs.length c] w (RNewTo w ls) := by
  have HI := Lib.hid h
  have HV := Lib.hid hv
  have HO := Lib.hid H
  have HL : Hid (ls.length = zs.length) := Lib.hid (by rw [← hls, nat_len])
  have HZ : Hid (∀ k, k < zs.length → zs.getD k 0 = (ln ls k : Nat)) := Lib.hid fun k hk => by rw [← hls]; exact (hv.ln hk).1
  have hzl := hv.len
  have K1 := Lib.hid (rroom_yes ao c zs w h hv)
  rw [hls] at K1
  have hm' : decide ((32768 : Int) < (room ls : Nat)) = false := by have := H.few; simp; omega
  clear h hv H hls
  go_enter Tryd.func45, Tryd.ntmps45
  go_upto_region 7 with (first
    | (go_at_call 58; (refine K1.out.mono ?_); rintro e w1 ⟨rfl, rfl⟩)
    | (refine wpList_make_z rfl 40 (.tmp 21) (.tmp 21) rfl 22 (.slice none 0 0) 1 24 zs.length Tryd.underlying40 (by kernel_rfl) .i64 .i64 _ _ rfl rfl rfl rfl (by omega) (by omega) ?_; intro W hb ht hs; have HS := Lib.hid hs; clear hs))
  obtain ⟨gl, hgl⟩ : ∃ gl, gl = w.heap.size := ⟨_, rfl⟩
  obtain ⟨pr, hpr⟩ : ∃ pr, pr = W.heap.size := ⟨_, rfl⟩
  have H0 : Hid (RNew w pr gl zs.length (room ls) ls 1 0 (W.alloc (.cells #[.slice (some ⟨gl, 0, none⟩) zs.length zs.length, .int .i64 (room ls : Nat)] 106))) := by
    have h1 := HS.out
    rw [sz, ← hgl] at hb
    have t := (Touch.refl (fun _ => False) W).alloc (.cells #[.slice (some ⟨gl, 0, none⟩) zs.length zs.length, .int .i64 (room ls : Nat)] 106)
    refine Lib.hid ⟨_, ?_, hb.touch t (fun h => h), fun s hs => ?_, fun s t k _ _ _ hk => ?_, fun s k _ hk => ?_, by omega, (ht.trans t).below (Nat.le_refl _) (fun _ h => h.elim), by omega, by omega⟩
    · rw [hpr]; exact Blk.made W 106 _
    · rw [done_start]; exact World.ownsRow_nil _ _ _ _
    · simp [Value.ownBlock] at hk
    · simp [Value.ownBlock] at hk
  rw [← hgl, ← hpr]
  clear hgl hpr hb ht HS
  obtain ⟨rm, hrm⟩ : ∃ rm, rm = room ls := ⟨_, rfl⟩
  rw [← hrm] at H0 ⊢
  have HRM := Lib.hid hrm
  clear hrm
  generalize W.alloc (.cells #[.slice (some ⟨gl, 0, none⟩) zs.length zs.length, .int .i64 (rm : Nat)] 106) = W0 at H0 ⊢
  go_wp2
  go_loopw [7, 8] (fun cv lv wr => ∃ l cod : Nat, 1 ≤ l ∧ l ≤ 16 ∧ lv = .int .i64 l ∧ cv = .int .i64 cod ∧ cod * 2 = fc ls l ∧ RNew w pr gl zs.length rm ls l 0 wr) (fun _ lv _ => 16 - (intOf lv).toNat)
  case atStart => exact ⟨1, 0, by omega, by omega, rfl, rfl, by simp [fc, cn], H0.out⟩
  case round =>
    obtain ⟨l, cod, hl1, hl16, rfl, rfl, hcod, hrel⟩ := hrel
    have HR := Lib.hid hrel
    clear hrel H0
    by_cases hlt : l ≤ 15
    · have hll : (l : Int) ≤ 15 := by omega
      have hb1 := fc_le HO.out l hlt
      go_wp2
      go_loopw [7, 9] (fun cv sv wr => ∃ s cod : Nat, s ≤ zs.length ∧ sv = .int .i64 s ∧ cv = .int .i64 cod ∧ cod = fc ls l + (ls.take s).count l ∧ RNew w pr gl zs.length rm ls l s wr) (fun _ sv _ => zs.length - (intOf sv).toNat)
      case atStart => exact ⟨0, cod * 2, Nat.zero_le _, rfl, by go_num, by rw [hcod]; simp, HR.out⟩
      case round =>
        obtain ⟨s, cd2, hs, rfl, rfl, hcd2, hrel⟩ := hrel
        have HR2 := Lib.hid hrel
        have HCD := Lib.hid hcd2
        have hcl : (ls.take s).count l ≤ 320 := by
          refine Nat.le_trans List.count_le_length ?_
          rw [List.length_take, HL.out]; omega
        have hcb : cd2 ≤ 40000 := by omega
        clear hrel HR hcd2
        by_cases hlt2 : s < zs.length
        · have hss : (s : Int) < zs.length := by omega
          have hsl : s < ls.length := by rw [HL.out]; exact hlt2
          obtain ⟨b, off, rfl, hcell⟩ := (HI.out.below (by obtain ⟨F, h⟩ := HR2.out; exact h.below)).at hlt2
          rw [HZ.out s hlt2] at hcell
          obtain ⟨n, hn⟩ : ∃ n, n = ln ls s := ⟨_, rfl⟩
          rw [← hn] at hcell
          have HN := Lib.hid hn.symm
          clear hn
          by_cases hnl : n = l
          · subst hnl
            have hne : ((n : Int) != n) = false := by simp
            have HCC : Hid (cd2 = cd ls s) := Lib.hid (by rw [HCD.out]; unfold cd rk; rw [HN.out])
            go_wp2
            go_loopw [10] (fun kv wr => ∃ (j : Nat) (z : Int), j ≤ n ∧ kv = .int .i64 z ∧ z = (n : Int) - 1 - j ∧ RBit w pr gl zs.length rm ls n s j wr) (fun kv _ => (intOf kv + 1).toNat)
            case atStart => exact ⟨0, _, Nat.zero_le _, rfl, by omega, HR2.out.bit HN.out⟩
            case round =>
              obtain ⟨j, z, hj, rfl, hz, F, hF⟩ := hrel
              by_cases hjn : j < n
              · obtain ⟨q, rfl⟩ : ∃ q : Nat, z = (q : Int) := ⟨z.toNat, by omega⟩
                have hq : q = n - 1 - j := by omega
                have hq15 : q ≤ 15 := by omega
                have HQ := Lib.hid hq
                have HRW := Lib.hid hF
                have hown := hF.rows s hlt2
                rw [if_pos rfl] at hown
                have hxl : ((cb ls s).take j).length = j := by rw [List.length_take, cb_len, HN.out]; omega
                obtain ⟨a1, c1, hFs⟩ := own_shape hown
                rw [hxl] at hFs
                rw [hFs] at hown
                have hg1 := (hF.c.cell 0).trans (show _ = some (.slice (some ⟨gl, 0, none⟩) zs.length zs.length) from rfl)
                have hg2 := (hF.l.cell s).trans (va_at _ _ s hlt2)
                rw [hFs] at hg2
                have HFS := Lib.hid hFs
                have HOWN := Lib.hid hown
                have HXL := Lib.hid hxl
                obtain ⟨xs, hxs⟩ : ∃ xs, xs = (cb ls s).take j := ⟨_, rfl⟩
                rw [← hxs] at HOWN HXL
                have HXS := Lib.hid hxs
                have hxl2 : xs.length ≤ 15 := by rw [HXL.out]; omega
                obtain ⟨D, hD⟩ : ∃ D, D = cd2 / 2 ^ q := ⟨_, rfl⟩
                obtain ⟨B, hB⟩ : ∃ B, B = D % 2 := ⟨_, rfl⟩
                have hD32 : D < 4294967296 := by
                  have : cd2 / 2 ^ q ≤ cd2 := Nat.div_le_self _ _
                  omega
                have e0 : IntKind.u64.wrap (q : Int) = q := by rw [IntKind.wrap_u64]; omega
                have e1 : (cd2 : Int) / 2 ^ q = (D : Nat) := by rw [hD]; simp
                have e2 := and_one D hD32
                rw [← hB] at e2
                have hB2 : B ≤ 1 := by omega
                have e3 : IntKind.u8.wrap (B : Int) = B := by rw [IntKind.wrap_u8']; omega
                have HB : Hid (B = cd ls s / 2 ^ (ln ls s - 1 - j) % 2) := Lib.hid (by rw [hB, hD, HCC.out, hq, HN.out])
                have ta := (Touch.refl (fun _ => False) wr).alloc (.cells #[.int .u8 (B : Nat)] 5)
                have hg3 := ((hF.c.touch ta (fun h => h)).cell 0).trans (show _ = some (.slice (some ⟨gl, 0, none⟩) zs.length zs.length) from rfl)
                have hg4 := ((hF.l.touch ta (fun h => h)).cell s).trans (va_at _ _ s hlt2)
                rw [hFs] at hg4
                clear hFs hown hxl hxs hD hB hF hz hq hD32 ta
                go_wp2
                go_region_law (refine step_append_x rfl (.tmp 61) (.tmp 68) rfl w.heap.size (.slice a1 j c1) (.slice (some ⟨wr.heap.size, 0, none⟩) 1 1) xs [B] (by simp [Act.eval]) (by simp [Act.eval]) (World.ownsRow.alloc (w := wr) HOWN.out _) (by_one wr B rfl) (by simp; have := HRW.out.below.size; omega) (by simp; omega) ?_; intro ao2 cc2 w2 hA; rw [← HFS.out] at hA; obtain ⟨m1, m2, m3⟩ := HRW.out.mid hlt2 hA)
                all_goals
                  have HP := Lib.hid (rbit_put HRW.out hlt2 HN.out hjn HB.out (by rw [← HXS.out]; exact hA))
                  clear hA
                  go_wp2_with fail
                  go_roundw
                  case rel => exact ⟨j + 1, _, by omega, rfl, by have := HQ.out; omega, by simpa [HXL.out] using HP.out⟩
                  case measure => first | (simp [intOf]; done) | (simp [intOf]; omega)
              · have hjn' : j = n := by omega
                subst hjn'
                have hz1 : z = -1 := by omega
                subst hz1
                have HW2 := Lib.hid (RBit.whole (⟨F, hF⟩ : RBit w pr gl zs.length rm ls j s j wr) HN.out)
                clear hF hz
                go_wp2
                go_roundw
                case rel => exact ⟨s + 1, cd2 + 1, by omega, by go_num, by go_num, by rw [HCD.out, code_step hsl, if_pos HN.out]; omega, HW2.out⟩
                case measure => simp [intOf]; omega
          · have hne : ((n : Int) != l) = true := by simp; omega
            have HNE : Hid (ln ls s ≠ l) := Lib.hid (by rw [HN.out]; exact hnl)
            go_wp2
            go_roundw
            case rel => exact ⟨s + 1, cd2, by omega, by go_num, rfl, by rw [HCD.out, code_step hsl, if_neg HNE.out]; rfl, by unfold RNew; rw [done_same HNE.out]; exact HR2.out⟩
            case measure => simp [intOf]; omega
        · have hs' : s = zs.length := by omega
          subst hs'
          go_wp2
          go_roundw
          case rel =>
            refine ⟨l + 1, cd2, by omega, by omega, by go_num, rfl, ?_, ?_⟩
            · rw [fc, HCD.out, List.take_of_length_le (by rw [HL.out]; exact Nat.le_refl _)]
              unfold cn
              rw [if_neg (by omega)]
            · obtain ⟨F, h⟩ := HR2.out
              refine ⟨F, ?_⟩
              rw [show done ls (l + 1) 0 = done ls l zs.length from funext fun t => done_next ls l zs.length (by rw [HL.out]; exact Nat.le_refl _) t]
              exact h
          case measure => simp [intOf]; omega
    · have hl' : l = 16 := by omega
      subst hl'
      go_wp2
      go_ret2
      obtain ⟨F, h⟩ := HR.out
      rw [done_all HO.out] at h
      refine ⟨pr, rfl, fun w2 ht => ?_, h.below⟩
      obtain ⟨k1, k2, k3⟩ := h.old ht
      refine ⟨⟨gl, rm, F, (k1.cell 0).trans (by rw [HL.out]; rfl), (k1.cell 1).trans rfl, fun s hs => ?_⟩, (k1.cell 1).trans (by rw [← HRM.out]; rfl)⟩
      rw [HL.out] at hs
      exact ⟨(k2.cell s).trans (va_at _ _ s hs), BySl.own (k3 s hs)⟩
end Go.Proofs.YtnnkegpnjedneaaDoor


/-
  Contract of the reference's Next.
-/
namespace Go.Proofs.YtnnkegpnjedneaaDoor
open Go.RowKit
set_option maxRecDepth 100000

/-- The first k bits of a code are those of the row. -/
def eqs (ls rb : List Nat) (at_ s k : Nat) : Bool := decide (∀ j, j < k → (cb ls s).getD j 0 = rb.getD (at_ + j) 0)
theorem eqs_zero (ls rb : List Nat) (at_ s : Nat) : eqs ls rb at_ s 0 = true := by simp [eqs]
theorem eqs_step (ls rb : List Nat) (at_ s k : Nat) (h : eqs ls rb at_ s k = true) : eqs ls rb at_ s (k + 1) = decide ((cb ls s).getD k 0 = rb.getD (at_ + k) 0) := by
  unfold eqs at h ⊢
  have h' := of_decide_eq_true h
  by_cases e : (cb ls s).getD k 0 = rb.getD (at_ + k) 0
  · rw [decide_eq_true e]
    refine decide_eq_true fun j hj => ?_
    by_cases ej : j = k
    · subst ej; exact e
    · exact h' j (by omega)
  · rw [decide_eq_false e]
    exact decide_eq_false fun f => e (f k (by omega))
theorem eqs_mono {ls rb : List Nat} {at_ s k m : Nat} (h : eqs ls rb at_ s m = true) (hk : k ≤ m) : eqs ls rb at_ s k = true := by
  unfold eqs at h ⊢
  have h' := of_decide_eq_true h
  exact decide_eq_true fun j hj => h' j (by omega)

/-- What is left of the row is the code's beginning, or begins with the code. -/
def Ft (ls rb : List Nat) (at_ s : Nat) : Bool := eqs ls rb at_ s (min (ln ls s) (rb.length - at_))
def anyFt (ls rb : List Nat) (at_ s : Nat) : Bool := (List.range s).any fun t => decide (ln ls t ≠ 0) && Ft ls rb at_ t
theorem anyFt_step (ls rb : List Nat) (at_ s : Nat) : anyFt ls rb at_ (s + 1) = (anyFt ls rb at_ s || (decide (ln ls s ≠ 0) && Ft ls rb at_ s)) := by
  simp [anyFt, List.range_succ]

theorem Ft_no {ls rb : List Nat} {at_ s k n : Nat} (hn : ln ls s = n) (hk : k ≤ n) (hl : at_ + k ≤ rb.length) (h : eqs ls rb at_ s k = false) : Ft ls rb at_ s = false := by
  cases hf : Ft ls rb at_ s with
  | false => rfl
  | true =>
    unfold Ft at hf
    rw [eqs_mono hf (k := k) (by omega)] at h
    exact h
theorem Ft_of {ls rb : List Nat} {at_ s k n : Nat} (hn : ln ls s = n) (hk : k = min n (rb.length - at_)) (h : eqs ls rb at_ s k = true) : Ft ls rb at_ s = true := by
  unfold Ft
  rw [hn, ← hk]
  exact h

/-- Of the first s symbols none is there whole. -/
def NoFull (ls rb : List Nat) (at_ s : Nat) : Prop := ∀ t, t < s → ln ls t ≠ 0 → Ft ls rb at_ t = true → rb.length < at_ + ln ls t

def RNextTo (ls rb : List Nat) (at_ : Nat) (w : World) (e : Ending) (w' : World) : Prop :=
  ((∃ s n : Nat, ln ls s = n ∧ n ≠ 0 ∧ Ft ls rb at_ s = true ∧ at_ + n ≤ rb.length ∧ e = .returned (.tuple #[.int .i64 s, .int .i64 n, .int .i64 0])) ∨
   (NoFull ls rb at_ ls.length ∧ (anyFt ls rb at_ ls.length = true ∨ rb.length ≤ at_) ∧ e = .returned (.tuple #[.int .i64 0, .int .i64 0, .int .i64 15])) ∨
   (anyFt ls rb at_ ls.length = false ∧ at_ < rb.length ∧ e = .returned (.tuple #[.int .i64 0, .int .i64 0, .int .i64 10]))) ∧ ∃ q, w' = w.drewN q

theorem BySl.len {w : World} {v : Value} {xs : List Nat} (h : BySl w v xs) : ∃ ao c, v = .slice ao xs.length c := by
  rcases h with ⟨rfl, rfl⟩ | ⟨ad, c, rfl, _⟩
  · exact ⟨none, 0, rfl⟩
  · exact ⟨some ad, c, rfl⟩
theorem BySl.get {w : World} {ao : Option Addr} {n c : Nat} {xs : List Nat} (h : BySl w (.slice ao n c) xs) (j : Nat) (hj : j < xs.length) : ∃ b off, ao = some ⟨b, off, none⟩ ∧ w.cell? ⟨b, off + j, none⟩ = some (.int .u8 (xs.getD j 0 : Nat)) := by
  obtain ⟨b, off, c', he, _, hc⟩ := h.at (by omega)
  simp only [Value.slice.injEq] at he
  exact ⟨b, off, he.1, hc j hj⟩

set_option maxRecDepth 100000 in
set_option maxHeartbeats 6400000 in
theorem rnext_any (p : Nat) (ls : List Nat) (ao : Option Addr) (c : Nat) (rb : List Nat) (at_ : Nat) (w : World) (h : RAt w p ls) (hr : BySl w (.slice ao rb.length c) rb) (hls : ls.length ≤ 320) (hl15 : ∀ s, ln ls s ≤ 15) (hL : rb.length ≤ 100000) (hat : at_ ≤ rb.length) :
    Calls Tryd.prog 72 #[.pointer (some ⟨p, 0, none⟩), .slice ao rb.length c, .int .i64 at_] w (RNextTo ls rb at_ w) := by
  obtain ⟨gl, rm, F, c0, c1, hF⟩ := h
  have HF := Lib.hid hF
  have HR := Lib.hid hr
  have HL15 := Lib.hid hl15
  clear hF hr hl15 c1
  go_enter Tryd.func72, Tryd.ntmps72
  go_wp2
  go_loopw [9, 10] (fun pv sv wr => ∃ s q : Nat, s ≤ ls.length ∧ sv = .int .i64 s ∧ pv = .bool (anyFt ls rb at_ s) ∧ NoFull ls rb at_ s ∧ wr = w.drewN q) (fun _ sv _ => ls.length - (intOf sv).toNat)
  case atStart => exact ⟨0, 0, Nat.zero_le _, rfl, rfl, fun t ht => absurd ht (Nat.not_lt_zero t), rfl⟩
  case round =>
    obtain ⟨s, q, hs, rfl, rfl, hno, rfl⟩ := hrel
    have HNO := Lib.hid hno
    clear hno
    by_cases hlt : s < ls.length
    · have hss : (s : Int) < ls.length := by omega
      obtain ⟨f1, f2⟩ := HF.out s hlt
      obtain ⟨a1, k1, hfs⟩ := f2.len
      rw [cb_len] at hfs
      rw [hfs] at f1 f2
      have H2 := Lib.hid f2
      clear f2 hfs
      have hn15 := HL15.out s
      obtain ⟨n, hn⟩ : ∃ n, n = ln ls s := ⟨_, rfl⟩
      rw [← hn] at f1 hn15 H2
      have HN := Lib.hid hn.symm
      clear hn
      by_cases h0 : n = 0
      · subst h0
        have HS : Hid (anyFt ls rb at_ (s + 1) = anyFt ls rb at_ s) := Lib.hid (by rw [anyFt_step, HN.out]; simp)
        go_wp2
        go_roundw
        case rel =>
          refine ⟨s + 1, _, by omega, by go_num, by rw [HS.out], fun t ht hn0 hf => ?_, rfl⟩
          by_cases e : t = s
          · subst e; exact absurd HN.out hn0
          · exact HNO.out t (by omega) hn0 hf
        case measure => simp [intOf]; omega
      · have hb0 : ((n : Int) == 0) = false := by simp; omega
        have hn1 : 1 ≤ n := by omega
        clear h0
        go_wp2
        go_loopw [12, 13] (fun fv kv wr => ∃ k q : Nat, k ≤ n ∧ at_ + k ≤ rb.length ∧ kv = .int .i64 k ∧ fv = .bool (eqs ls rb at_ s k) ∧ wr = w.drewN q) (fun _ kv _ => n - (intOf kv).toNat)
        case atStart => exact ⟨0, _, Nat.zero_le _, by omega, rfl, by rw [eqs_zero], rfl⟩
        case round =>
          obtain ⟨k, q2, hk, hak, rfl, rfl, rfl⟩ := hrel
          obtain ⟨fb, hfb⟩ : ∃ fb, fb = eqs ls rb at_ s k := ⟨_, rfl⟩
          have HFB := Lib.hid hfb
          rw [← hfb]
          clear hfb
          by_cases hgo : k < n ∧ at_ + k < rb.length ∧ fb = true
          · obtain ⟨hkn, hal, rfl⟩ := hgo
            have hkn' : (k : Int) < n := by omega
            have hal' : (at_ : Int) + k < rb.length := by omega
            obtain ⟨b1, o1, rfl, g1⟩ := H2.out.get k (by rw [cb_len, HN.out]; exact hkn)
            obtain ⟨b2, o2, rfl, g2⟩ := HR.out.get (at_ + k) hal
            have HES := Lib.hid (eqs_step ls rb at_ s k HFB.out.symm)
            obtain ⟨x, hx⟩ : ∃ x, x = (cb ls s).getD k 0 := ⟨_, rfl⟩
            obtain ⟨y, hy⟩ : ∃ y, y = rb.getD (at_ + k) 0 := ⟨_, rfl⟩
            rw [← hx] at g1 HES
            rw [← hy] at g2 HES
            have e1 : IntKind.i64.wrap ((at_ : Int) + k) = (at_ : Int) + k := by rw [IntKind.wrap_i64]; omega
            have e2 : (0 : Int) ≤ (at_ : Int) + k := by omega
            have e3 : ((at_ : Int) + k).toNat = at_ + k := by omega
            clear hx hy
            go_wp2
            go_quiet (fail)
            go_wp2
            have hxy : ((x : Int) == y) = decide (x = y) := by rw [Bool.eq_iff_iff]; simp; omega
            rw [← hxy] at HES
            clear hxy
            go_roundw
            case rel => exact ⟨k + 1, _, by omega, by omega, by go_num, by rw [HES.out], rfl⟩
            case measure => simp [intOf]; omega
          · by_cases hkn : k < n
            · have hkn' : (k : Int) < n := by omega
              have hke : ((k : Int) == n) = false := by simp; omega
              by_cases hal : at_ + k < rb.length
              · have hal' : (at_ : Int) + k < rb.length := by omega
                obtain rfl : fb = false := by
                  cases fb
                  · rfl
                  · exact absurd ⟨hkn, hal, rfl⟩ hgo
                have HFT : Hid (Ft ls rb at_ s = false) := Lib.hid (Ft_no HN.out (by omega) hak HFB.out.symm)
                clear hgo
                have HNF : Hid (NoFull ls rb at_ (s + 1)) := Lib.hid fun t ht hn0 hf => by
                  by_cases e : t = s
                  · subst e
                    rw [HN.out]
                    first | omega | (rw [HFT.out] at hf; cases hf)
                  · exact HNO.out t (by omega) hn0 hf
                obtain ⟨pb, hpb⟩ : ∃ pb, pb = anyFt ls rb at_ s := ⟨_, rfl⟩
                have HST : Hid (anyFt ls rb at_ (s + 1) = (pb || false)) := Lib.hid (by rw [anyFt_step, HFT.out, ← hpb, decide_eq_true (show ln ls s ≠ 0 by rw [HN.out]; omega)]; simp)
                rw [← hpb]
                clear hpb
                cases pb
                all_goals
                  go_wp2
                  go_roundw
                  case rel => exact ⟨s + 1, _, by omega, by go_num, by rw [HST.out]; rfl, HNF.out, rfl⟩
                  case measure => simp [intOf]; omega
              · have hal' : decide ((at_ : Int) + k < rb.length) = false := by simp; omega
                have hal2 : ¬ (at_ : Int) + k < rb.length := by omega
                clear hgo
                cases fb
                · have HFT : Hid (Ft ls rb at_ s = false) := Lib.hid (Ft_no HN.out (by omega) hak HFB.out.symm)
                  have HNF : Hid (NoFull ls rb at_ (s + 1)) := Lib.hid fun t ht hn0 hf => by
                    by_cases e : t = s
                    · subst e
                      rw [HN.out]
                      first | omega | (rw [HFT.out] at hf; cases hf)
                    · exact HNO.out t (by omega) hn0 hf
                  obtain ⟨pb, hpb⟩ : ∃ pb, pb = anyFt ls rb at_ s := ⟨_, rfl⟩
                  have HST : Hid (anyFt ls rb at_ (s + 1) = (pb || false)) := Lib.hid (by rw [anyFt_step, HFT.out, ← hpb, decide_eq_true (show ln ls s ≠ 0 by rw [HN.out]; omega)]; simp)
                  rw [← hpb]
                  clear hpb
                  cases pb
                  all_goals
                    go_wp2
                    go_roundw
                    case rel => exact ⟨s + 1, _, by omega, by go_num, by rw [HST.out]; rfl, HNF.out, rfl⟩
                    case measure => simp [intOf]; omega
                · have HFT : Hid (Ft ls rb at_ s = true) := Lib.hid (Ft_of HN.out (by omega) HFB.out.symm)
                  have HNF : Hid (NoFull ls rb at_ (s + 1)) := Lib.hid fun t ht hn0 hf => by
                    by_cases e : t = s
                    · subst e
                      rw [HN.out]
                      first | omega | (rw [HFT.out] at hf; cases hf)
                    · exact HNO.out t (by omega) hn0 hf
                  obtain ⟨pb, hpb⟩ : ∃ pb, pb = anyFt ls rb at_ s := ⟨_, rfl⟩
                  have HST : Hid (anyFt ls rb at_ (s + 1) = (pb || true)) := Lib.hid (by rw [anyFt_step, HFT.out, ← hpb, decide_eq_true (show ln ls s ≠ 0 by rw [HN.out]; omega)]; simp)
                  rw [← hpb]
                  clear hpb
                  cases pb
                  all_goals
                    go_wp2
                    go_roundw
                    case rel => exact ⟨s + 1, _, by omega, by go_num, by rw [HST.out]; rfl, HNF.out, rfl⟩
                    case measure => simp [intOf]; omega
            · have hkn' : decide ((k : Int) < n) = false := by simp; omega
              have hkn2 : decide (k < n) = false := by simp; omega
              have hke : k = n := by omega
              subst hke
              have hkk : ((k : Int) == k) = true := by simp
              clear hgo
              cases fb
              · have HFT : Hid (Ft ls rb at_ s = false) := Lib.hid (Ft_no HN.out (by omega) hak HFB.out.symm)
                have HNF : Hid (NoFull ls rb at_ (s + 1)) := Lib.hid fun t ht hn0 hf => by
                  by_cases e : t = s
                  · subst e
                    rw [HN.out]
                    first | omega | (rw [HFT.out] at hf; cases hf)
                  · exact HNO.out t (by omega) hn0 hf
                obtain ⟨pb, hpb⟩ : ∃ pb, pb = anyFt ls rb at_ s := ⟨_, rfl⟩
                have HST : Hid (anyFt ls rb at_ (s + 1) = (pb || false)) := Lib.hid (by rw [anyFt_step, HFT.out, ← hpb, decide_eq_true (show ln ls s ≠ 0 by rw [HN.out]; omega)]; simp)
                rw [← hpb]
                clear hpb
                cases pb
                all_goals
                  go_wp2
                  go_roundw
                  case rel => exact ⟨s + 1, _, by omega, by go_num, by rw [HST.out]; rfl, HNF.out, rfl⟩
                  case measure => simp [intOf]; omega
              · have HFT : Hid (Ft ls rb at_ s = true) := Lib.hid (Ft_of HN.out (by omega) HFB.out.symm)
                go_wp2
                go_ret3
                exact ⟨.inl ⟨s, k, HN.out, by omega, HFT.out, hak, rfl⟩, _, rfl⟩
    · have hs' : s = ls.length := by omega
      subst hs'
      obtain ⟨pb, hpb⟩ : ∃ pb, pb = anyFt ls rb at_ ls.length := ⟨_, rfl⟩
      have HPB := Lib.hid hpb.symm
      rw [← hpb]
      clear hpb
      cases pb
      · by_cases hend : rb.length ≤ at_
        · have hend' : (rb.length : Int) ≤ at_ := by omega
          go_wp2
          go_ret3
          exact ⟨.inr (.inl ⟨HNO.out, .inr hend, rfl⟩), _, rfl⟩
        · have hend' : decide ((rb.length : Int) ≤ at_) = false := by simp; omega
          have hend2 : decide (rb.length ≤ at_) = false := by simp; omega
          go_wp2
          go_ret3
          exact ⟨.inr (.inr ⟨HPB.out, by omega, rfl⟩), _, rfl⟩
      · go_wp2
        go_ret3
        exact ⟨.inr (.inl ⟨HNO.out, .inl HPB.out, rfl⟩), _, rfl⟩
end Go.Proofs.YtnnkegpnjedneaaDoor


/-
  Both searches say the same.
-/
namespace Go.Proofs.YtnnkegpnjedneaaDoor
open Go.RowKit
set_option maxRecDepth 100000

/-- The bits of a row of bytes, one by one. -/
def rbits (bs : List Nat) (k : Nat) : List Nat := (List.range k).map fun i => num bs / 2 ^ i % 2
theorem rbits_len (bs : List Nat) (k : Nat) : (rbits bs k).length = k := by simp [rbits]
theorem rbits_at (bs : List Nat) (k i : Nat) (h : i < k) : (rbits bs k).getD i 0 = num bs / 2 ^ i % 2 := by simp [rbits, List.getD, h]
theorem rbits_bs (bs : List Nat) (k : Nat) : Bs (rbits bs k) := fun x hx => by
  obtain ⟨j, _, rfl⟩ := List.mem_map.1 hx
  omega
theorem rbits_succ (bs : List Nat) (k : Nat) : rbits bs (k + 1) = rbits bs k ++ [num bs / 2 ^ k % 2] := by simp [rbits, List.range_succ]
theorem bit_same (a b i j : Nat) (h : a.testBit i = b.testBit j) : a / 2 ^ i % 2 = b / 2 ^ j % 2 := by
  rw [Nat.testBit_eq_decide_div_mod_eq, Nat.testBit_eq_decide_div_mod_eq] at h
  have h1 : a / 2 ^ i % 2 = 0 ∨ a / 2 ^ i % 2 = 1 := by omega
  have h2 : b / 2 ^ j % 2 = 0 ∨ b / 2 ^ j % 2 = 1 := by omega
  rcases h1 with h1 | h1 <;> rcases h2 with h2 | h2 <;> simp [h1, h2] at h ⊢
/-- A bit of a byte. -/
theorem byte_bit {bs : List Nat} (hb : Bs bs) (i : Nat) : bs.getD (i / 8) 0 / 2 ^ (i % 8) % 2 = num bs / 2 ^ i % 2 := by
  rw [num_byte hb, pow256]
  have e : num bs / 2 ^ (8 * (i / 8)) % 256 / 2 ^ (i % 8) % 2 = num bs / 2 ^ (8 * (i / 8)) / 2 ^ (i % 8) % 2 := by
    refine bit_same _ _ _ _ ?_
    rw [show (256 : Nat) = 2 ^ 8 from rfl, Nat.testBit_mod_two_pow]
    simp [show i % 8 < 8 by omega]
  rw [e, Nat.div_div_eq_div_mul, ← Nat.pow_add, show 8 * (i / 8) + i % 8 = i by omega]

theorem bits_iff (a b M : Nat) : (∀ j, j < M → a / 2 ^ j % 2 = b / 2 ^ j % 2) ↔ a % 2 ^ M = b % 2 ^ M := by
  constructor
  · intro h
    apply Nat.eq_of_testBit_eq
    intro i
    rw [Nat.testBit_mod_two_pow, Nat.testBit_mod_two_pow]
    by_cases hi : i < M
    · rw [Nat.testBit_eq_decide_div_mod_eq, Nat.testBit_eq_decide_div_mod_eq, h i hi]
    · simp [hi]
  · intro h j hj
    refine bit_same a b j j ?_
    have := congrArg (fun x => x.testBit j) h
    simpa [Nat.testBit_mod_two_pow, hj] using this
theorem cb_bit (ls : List Nat) (s j : Nat) (h : j < ln ls s) : (cb ls s).getD j 0 = rv (ln ls s) (cd ls s) / 2 ^ j % 2 := by
  rw [cb_at ls s j h]
  refine bit_same _ _ _ _ ?_
  rw [rv_bit]
  simp [h]

theorem Ft_iff {ls bs : List Nat} {L at_ s : Nat} (hL : 8 * bs.length = L) (hat : at_ ≤ L) :
    Ft ls (rbits bs L) at_ s = true ↔ rv (ln ls s) (cd ls s) % 2 ^ min (ln ls s) (L - at_) = num bs / 2 ^ at_ % 2 ^ min (ln ls s) (L - at_) := by
  unfold Ft eqs
  rw [rbits_len, decide_eq_true_iff, ← bits_iff]
  constructor
  · intro h j hj
    have := h j hj
    rw [cb_bit ls s j (by omega), rbits_at _ _ _ (by omega)] at this
    rw [this, Nat.div_div_eq_div_mul, ← Nat.pow_add]
  · intro h j hj
    have := h j hj
    rw [cb_bit ls s j (by omega), rbits_at _ _ _ (by omega), this, Nat.div_div_eq_div_mul, ← Nat.pow_add]

theorem rv_long (M k y : Nat) (h : y < 2 ^ M) : rv (M + k) y = rv M y * 2 ^ k := by
  induction k with
  | zero => simp
  | succ k ih =>
    rw [← Nat.add_assoc, rv, ih, Nat.div_eq_of_lt (Nat.lt_of_lt_of_le h (Nat.pow_le_pow_right (by omega) (by omega))), Nat.pow_succ, Nat.mul_assoc, Nat.zero_mod, Nat.add_zero]
theorem rv_cut (M V : Nat) (hM : M ≤ 15) : rv 15 (V % 2 ^ M) ≤ rv 15 V := by
  have h1 := rv_long M (15 - M) (V % 2 ^ M) (Nat.mod_lt _ (Nat.two_pow_pos M))
  rw [show M + (15 - M) = 15 by omega, rv_mod] at h1
  have h2 := rv_div M (15 - M) V
  rw [show M + (15 - M) = 15 by omega] at h2
  rw [h1, ← h2]
  exact Nat.div_mul_le_self _ _

theorem rest_lt {bs : List Nat} (hb : Bs bs) {L at_ : Nat} (hL : 8 * bs.length = L) (hat : at_ ≤ L) : num bs / 2 ^ at_ < 2 ^ (L - at_) := by
  have h := num_lt hb
  rw [pow256, hL, show L = at_ + (L - at_) by omega, Nat.pow_add] at h
  exact Nat.div_lt_of_lt_mul h

/-- A code that the bits begin with, whole. -/
theorem full_beg {ls bs : List Nat} (H : Ok ls) {L at_ s : Nat} (hL : 8 * bs.length = L) (hat : at_ ≤ L) (hs : ln ls s ≠ 0) (hf : Ft ls (rbits bs L) at_ s = true) (hle : at_ + ln ls s ≤ L) : Beg ls (ahead bs at_) s := by
  rw [Ft_iff hL hat, Nat.min_eq_left (by omega), Nat.mod_eq_of_lt (rv_lt _ _)] at hf
  exact beg_of H hs hf.symm
/-- A code that the bits begin with, as far as they go, fits. -/
theorem beg_fits {ls bs : List Nat} (H : Ok ls) {L at_ s : Nat} (hL : 8 * bs.length = L) (hat : at_ ≤ L) (hb : Beg ls (ahead bs at_) s) : Ft ls (rbits bs L) at_ s = true := by
  rw [Ft_iff hL hat]
  have hle := ln_le H s
  have h1 : num bs / 2 ^ at_ % 2 ^ ln ls s = rv (ln ls s) (cd ls s) := by
    have h2 := hb.2
    unfold ahead at h2
    have h3 := rv_div (ln ls s) (15 - ln ls s) (pk bs at_ 15)
    rw [show ln ls s + (15 - ln ls s) = 15 by omega, h2] at h3
    rw [h3, rv_rv]
    unfold pk
    rw [Nat.mod_mod_of_dvd _ (Nat.pow_dvd_pow 2 hle)]
  rw [← h1, Nat.mod_mod_of_dvd _ (Nat.pow_dvd_pow 2 (Nat.min_le_left _ _))]
/-- What fits and is longer than the bits lies above them. -/
theorem fits_room {ls bs : List Nat} (H : Ok ls) (hb : Bs bs) {L at_ s : Nat} (hL : 8 * bs.length = L) (hat : at_ ≤ L) (hs : ln ls s ≠ 0) (hf : Ft ls (rbits bs L) at_ s = true) (hlong : L < at_ + ln ls s) : ahead bs at_ < room ls := by
  rw [Ft_iff hL hat, Nat.min_eq_right (by omega), Nat.mod_eq_of_lt (rest_lt hb hL hat)] at hf
  have hle := ln_le H s
  have hA : ahead bs at_ ≤ rv 15 (rv (ln ls s) (cd ls s)) := by
    unfold ahead pk
    rw [rv_mod, ← hf]
    exact rv_cut _ _ (by omega)
  have hlo : rv 15 (rv (ln ls s) (cd ls s)) = lo ls s := by
    have h1 := rv_long (ln ls s) (15 - ln ls s) (rv (ln ls s) (cd ls s)) (rv_lt _ _)
    rw [show ln ls s + (15 - ln ls s) = 15 by omega, lo_of H hs] at h1
    exact h1
  have h2 := lo_hi ls s
  have h3 := hi_room H hs
  omega
theorem anyFt_iff (ls rb : List Nat) (at_ k : Nat) : anyFt ls rb at_ k = true ↔ ∃ t, t < k ∧ ln ls t ≠ 0 ∧ Ft ls rb at_ t = true := by
  simp [anyFt]
end Go.Proofs.YtnnkegpnjedneaaDoor

