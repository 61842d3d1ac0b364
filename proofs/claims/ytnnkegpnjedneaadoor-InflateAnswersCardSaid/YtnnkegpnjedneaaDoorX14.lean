import Derived.Test.YtnnkegpnjedneaaDoorX13
import Derived.Test.YtnnkegpnjedneaaDoorX9
import Derived.Test.YtnnkegpnjedneaaDoorX8
import Derived.Test.YtnnkegpnjedneaaDoorX3
import Derived.Test.YtnnkegpnjedneaaDoorX6
/-
  symbols of the reference's run.
-/
namespace Go.Proofs.YtnnkegpnjedneaaDoor
open Go.RowKit
set_option maxRecDepth 100000

section
variable {B p : Nat} {rv : Value} {bs : List Nat} {lim nb er : Nat} {w : World} {ov : Value} {s : Sta}

/-- While symbols are read: the reading goes on, or has a fault. -/
inductive Sq (B p : Nat) (rv : Value) (bs : List Nat) (lim nb : Nat) (w : World) (ov : Value) (p1 p2 : Nat) (fl ol : List Nat) (R : Res Unit) (gm : Nat) (wr : World) (ov' : Value) : Prop where
  | go (s' : Sta) (q : QS B p rv bs lim nb 0 wr ov' s') (m : Qv p w ov wr ov') (r : syms bs lim fl ol s' = R) (c1 : Cod wr p ov' p1 fl) (c2 : Cod wr p ov' p2 ol) (g : 8 * bs.length + 1 - s'.at_ ≤ gm)
  | bad (er : Nat) (s' : Sta) (q : QS B p rv bs lim nb er wr ov' s') (m : Qv p w ov wr ov') (r : R = .bad er) (h : er ≠ 0)
set_option maxHeartbeats 3200000 in
theorem rsymbols_any {p1 p2 : Nat} {fl ol : List Nat} (h : QS B p rv bs lim nb 0 w ov s) (hc1 : Cod w p ov p1 fl) (hc2 : Cod w p ov p2 ol) (H1 : Ok fl) (H2 : Ok ol) :
    Calls Tryd.prog 46 #[.pointer (some ⟨p, 0, none⟩), .pointer (some ⟨p1, 0, none⟩), .pointer (some ⟨p2, 0, none⟩)] w (QTo B p rv bs lim nb w ov uv (.tuple #[]) (syms bs lim fl ol s)) := by
  obtain ⟨R, hR⟩ : ∃ R, R = syms bs lim fl ol s := ⟨_, rfl⟩
  rw [← hR]
  have K1 := Lib.hid H1
  have K2 := Lib.hid H2
  have H0 : Hid (Sq B p rv bs lim nb w ov p1 p2 fl ol R (8 * bs.length + 1) w ov) := Lib.hid (.go s h (Qv.refl _ _ _) hR.symm hc1 hc2 (by omega))
  clear h hc1 hc2 H1 H2 hR
  go_enter Tryd.func46, Tryd.ntmps46
  go_wp2
  go_loopg [] (8 * bs.length + 1) (fun gm wr => ∃ ov', Hid (Sq B p rv bs lim nb w ov p1 p2 fl ol R gm wr ov'))
  case atStart => exact ⟨ov, H0⟩
  case round =>
    clear H0
    obtain ⟨ov1, HX⟩ := hrel
    cases HX.out with
    | bad er s1 q m r her =>
      have c4 := q.cells.c4
      have d : ((er : Int) == 0) = false := by simp; omega
      have Q := Lib.hid q
      have M := Lib.hid m
      have HR := Lib.hid r
      clear q m r her HX
      go_wp2
      go_end0
      exact QTo.bad HR.out Q.out M.out
    | go s1 q m r c1 c2 g =>
      have c4 := q.cells.c4
      have hin := q.in_
      have hst := q.steps
      have HS := Lib.hid (symq_any q c1 K1.out)
      have M := Lib.hid m
      have C1 := Lib.hid c1
      have C2 := Lib.hid c2
      have HR := Lib.hid r
      have hlb : s1.at_ ≤ 8000 := by have := q.len; omega
      clear q m r c1 c2 HX
      go_wp2_with fail
      refine HS.out.mono ?_
      rintro e w2 h2
      have hR := HR.out
      rw [syms_eq hin] at hR
      cases hr1 : rdS bs fl s1 with
      | bad er =>
        rw [hr1] at h2 hR
        have her := rdS_er hr1
        obtain ⟨rfl, ov2, s2, h2, m2⟩ := h2
        have d : ((er : Int) == 0) = false := by simp; omega
        have d' : ((er : Int) != 0) = true := by simp; omega
        have c4 := h2.cells.c4
        have Q := Lib.hid h2
        have M2 := Lib.hid (M.out.trans m2)
        have HR1 := Lib.hid hR.symm
        clear hr1 hR h2 m2 her HS
        go_wp2
        go_end0
        exact QTo.bad HR1.out Q.out M2.out
      | ok y s2 =>
        rw [hr1] at h2 hR
        obtain ⟨rfl, ov2, h2, m2⟩ := h2
        obtain ⟨_, k1, k2, k3⟩ := rdS_is hr1
        have hs2 : s2.steps + 1 ≤ s2.at_ := by rw [k3]; show s1.steps + 1 ≤ s1.at_ + ln fl y; omega
        have hat : s1.at_ < s2.at_ := by rw [k3]; show s1.at_ < s1.at_ + ln fl y; omega
        have hy : y < 320 := by
          have := ln_lt (ls := fl) (s := y) (by omega)
          have := K1.out.len
          omega
        have hi2 := h2.in_
        have hstb : s2.steps ≤ 100000 := by have := h2.steps; have := h2.len; omega
        have c4 := h2.cells.c4
        have c5 := h2.cells.c5
        have f5 := h2.cells.f5
        have h3 := fun (x : Int) (hx : x = ((s2.steps + 1 : Nat) : Int)) => h2.setSteps (s2.steps + 1) hs2 (x := x) hx
        have hq3 := h3 ((s2.steps : Int) + 1) (by simp)
        have Q3 := Lib.hid hq3.1
        have M3 := Lib.hid ((M.out.trans m2).trans hq3.2)
        have D1 := Lib.hid ((C1.out.on m2).on hq3.2)
        have D2 := Lib.hid ((C2.out.on m2).on hq3.2)
        clear k1 k2 k3 hr1 h3 hq3 h2 m2 HS C1 C2 M
        rw [Res.bind_ok] at hR
        by_cases hy1 : y < 256
        · rw [if_pos hy1] at hR
          have hy2 : (y : Int) < 256 := by omega
          have e8 : IntKind.u8.wrap (y : Int) = y := by rw [IntKind.wrap_u8']; omega
          by_cases hf : lim < s2.out.length + 1
          · rw [if_pos hf] at hR
            have HR1 := Lib.hid hR.symm
            have HP := Lib.hid (rput_no Q3.out (y : Int) (by show lim ≤ s2.out.length; omega))
            clear hR hf HR
            go_wp2_with fail
            refine HP.out.mono ?_
            rintro e w4 ⟨rfl, h4, m4⟩
            have Q4 := Lib.hid h4
            have M4 := Lib.hid (M3.out.trans m4)
            clear h4 m4 HP
            go_wp2
            go_roundg 0
            case measure => omega
            case rel => exact ⟨_, Lib.hid (.bad 14 _ Q4.out M4.out HR1.out (by omega))⟩
          · rw [if_neg hf] at hR
            have HR1 := Lib.hid hR
            have HP := Lib.hid (rput_yes Q3.out y hy1 (by show s2.out.length < lim; omega))
            clear hR hf HR
            go_wp2_with fail
            refine HP.out.mono ?_
            rintro e w4 ⟨rfl, ov4, h4, m4⟩
            have Q4 := Lib.hid h4
            have M4 := Lib.hid (M3.out.trans m4)
            have E1 := Lib.hid (D1.out.on m4)
            have E2 := Lib.hid (D2.out.on m4)
            clear h4 m4 HP D1 D2
            go_wp2
            go_roundg (8 * bs.length + 1 - s2.at_)
            case measure => omega
            case rel => exact ⟨_, Lib.hid (.go _ Q4.out M4.out HR1.out E1.out E2.out (Nat.le_refl _))⟩
        · rw [if_neg hy1] at hR
          by_cases hy2 : y = 256
          · subst hy2
            rw [if_pos rfl] at hR
            have HR1 := Lib.hid hR.symm
            clear hR HR hy1
            go_wp2
            go_end0
            exact QTo.ok (enc := uv) HR1.out Q3.out M3.out
          · rw [if_neg hy2] at hR
            have HR1 := Lib.hid hR
            have d1 : ¬ (y : Int) < 256 := by omega
            have d2 : ((y : Int) == 256) = false := by simp; omega
            have HC := Lib.hid (copied_any Q3.out D2.out K2.out y)
            clear hR HR hy1 hy2
            go_wp2_with fail
            refine HC.out.mono ?_
            rintro e w4 h4
            have hR := HR1.out
            cases hr2 : again bs lim ol y { s2 with steps := s2.steps + 1 } with
            | bad er =>
              rw [hr2] at h4 hR
              obtain ⟨rfl, ov4, s4, h4, m4⟩ := h4
              have her := again_nz ol y { s2 with steps := s2.steps + 1 } er hi2 hr2
              have HR2 := Lib.hid hR.symm
              have HE := Lib.hid her
              have Q4 := Lib.hid h4
              have M4 := Lib.hid (M3.out.trans m4)
              clear hr2 hR h4 m4 her HC
              go_wp2
              go_roundg 0
              case measure => omega
              case rel => exact ⟨_, Lib.hid (.bad er _ Q4.out M4.out HR2.out HE.out)⟩
            | ok u s4 =>
              rw [hr2] at h4 hR
              obtain ⟨rfl, ov4, h4, m4⟩ := h4
              have HR2 := Lib.hid hR
              have hle := (again_pr (lim := lim) ol y { s2 with steps := s2.steps + 1 } _ _ hi2 hr2).at_
              have hle' : s2.at_ ≤ s4.at_ := hle
              have Q4 := Lib.hid h4
              have M4 := Lib.hid (M3.out.trans m4)
              have E1 := Lib.hid (D1.out.on m4)
              have E2 := Lib.hid (D2.out.on m4)
              clear hr2 hR h4 m4 hle HC D1 D2
              go_wp2
              go_roundg (8 * bs.length + 1 - s4.at_)
              case measure => omega
              case rel => exact ⟨_, Lib.hid (.go _ Q4.out M4.out HR2.out E1.out E2.out (Nat.le_refl _))⟩
end
end Go.Proofs.YtnnkegpnjedneaaDoor

/-
  code of the reference's run.
-/
namespace Go.Proofs.YtnnkegpnjedneaaDoor
open Go.RowKit
set_option maxRecDepth 100000

theorem fp_app (l : List Nat) (x n : Nat) : fp (l ++ [x]) n = fp l n + if x ≠ 0 ∧ x < n then 1 else 0 := by
  induction n with
  | zero => simp [fp]
  | succ n ih =>
    rw [fp, fp, ih, cn_app]
    by_cases h0 : x = 0
    · rw [if_neg (fun e => e.1 h0), if_neg (fun e => e.2 (e.1.trans h0)), if_neg (fun e => e.1 h0)]; omega
    · by_cases h1 : n = x
      · rw [if_neg (fun e => by omega), if_pos ⟨h1, by omega⟩, if_pos ⟨h0, by omega⟩]; omega
      · by_cases h2 : x < n
        · rw [if_pos ⟨h0, h2⟩, if_neg (fun e => h1 e.1), if_pos ⟨h0, by omega⟩]; omega
        · rw [if_neg (fun e => h2 e.2), if_neg (fun e => h1 e.1), if_neg (fun e => by omega)]; omega
theorem fp_nil (n : Nat) : fp [] n = 0 := by
  induction n with
  | zero => rfl
  | succ n ih => rw [fp, ih]; simp [cn]
theorem many_nil : many [] = 0 := fp_nil 16
theorem many_take {l : List Nat} (h : ∀ x ∈ l, x ≤ 15) {k : Nat} (hk : k < l.length) : many (l.take (k + 1)) = many (l.take k) + if 0 < l.getD k 0 then 1 else 0 := by
  have e : l.getD k 0 = l[k] := by rw [List.getD_eq_getElem?_getD, List.getElem?_eq_getElem hk]; rfl
  have := h _ (List.getElem_mem hk)
  rw [List.take_succ_eq_append_getElem hk, e]
  unfold many
  rw [fp_app]
  by_cases h0 : l[k] = 0
  · rw [if_neg (fun e => e.1 h0), if_neg (by omega)]
  · rw [if_pos ⟨h0, by omega⟩, if_pos (by omega)]
theorem many_le {l : List Nat} (h : ∀ x ∈ l, x ≤ 15) : ∀ k, k ≤ l.length → many (l.take k) ≤ k := by
  intro k
  induction k with
  | zero => intro _; rw [List.take_zero, many_nil]; exact Nat.le_refl _
  | succ k ih => intro hk; rw [many_take h (by omega)]; have := ih (by omega); split <;> omega
/-- No code, or one of them. -/
theorem many_few {l : List Nat} (h : ∀ x ∈ l, x ≤ 15) : ∀ k, k ≤ l.length →
    (many (l.take k) = 0 → rsum (l.take k) = 0 ∧ ∀ x ∈ l.take k, x = 0) ∧ (many (l.take k) = 1 → ∃ x, x ∈ l.take k ∧ x ≠ 0 ∧ rsum (l.take k) = part1 x ∧ ∀ z ∈ l.take k, z = 0 ∨ z = x) := by
  intro k
  induction k with
  | zero => intro _; rw [List.take_zero]; exact ⟨fun _ => ⟨rfl, fun x hx => by cases hx⟩, fun h1 => by rw [many_nil] at h1; cases h1⟩
  | succ k ih =>
    intro hk
    obtain ⟨i0, i1⟩ := ih (by omega)
    have e : l.getD k 0 = l[k]'(by omega) := by rw [List.getD_eq_getElem?_getD, List.getElem?_eq_getElem (show k < l.length by omega)]; rfl
    have hm := many_take h (show k < l.length by omega)
    rw [e] at hm
    rw [List.take_succ_eq_append_getElem (show k < l.length by omega)] at hm ⊢
    obtain ⟨y, hy⟩ : ∃ y, y = l[k]'(by omega) := ⟨_, rfl⟩
    rw [← hy] at hm ⊢
    by_cases h0 : y = 0
    · subst h0
      rw [if_neg (Nat.lt_irrefl 0), Nat.add_zero] at hm
      rw [hm, rsum_app, show part1 0 = 0 from rfl, Nat.add_zero]
      refine ⟨fun h1 => ⟨(i0 h1).1, fun x hx => ?_⟩, fun h1 => ?_⟩
      · rcases List.mem_append.1 hx with hx | hx
        · exact (i0 h1).2 x hx
        · exact List.mem_singleton.1 hx
      · obtain ⟨x, hx, hx0, hr, hz⟩ := i1 h1
        refine ⟨x, List.mem_append.2 (.inl hx), hx0, hr, fun z hzm => ?_⟩
        rcases List.mem_append.1 hzm with hzm | hzm
        · exact hz z hzm
        · exact .inl (List.mem_singleton.1 hzm)
    · rw [if_pos (by omega)] at hm
      rw [hm, rsum_app]
      refine ⟨fun h1 => by omega, fun h1 => ?_⟩
      obtain ⟨k1, k2⟩ := i0 (by omega)
      refine ⟨y, List.mem_append.2 (.inr (List.mem_singleton.2 rfl)), h0, by rw [k1, Nat.zero_add], fun z hzm => ?_⟩
      rcases List.mem_append.1 hzm with hzm | hzm
      · exact .inl (k2 z hzm)
      · exact .inr (List.mem_singleton.1 hzm)
theorem part_half {x : Nat} (h0 : x ≠ 0) (h : x ≤ 15) : part1 x = 16384 ↔ x = 1 := by
  have key : ∀ x, x < 16 → x ≠ 0 → (part1 x = 16384 ↔ x = 1) := by decide
  exact key x (by omega) h0
theorem one_half {l : List Nat} (h : ∀ x ∈ l, x ≤ 15) (h1 : many l = 1) : room l = 16384 ↔ 1 ∈ l := by
  have k := (many_few h l.length (Nat.le_refl _)).2
  rw [List.take_length] at k
  obtain ⟨x, hx, hx0, hr, hz⟩ := k h1
  rw [room_rsum l h, hr, part_half hx0 (h x hx)]
  constructor
  · rintro rfl; exact hx
  · intro hm
    rcases hz 1 hm with e | e
    · cases e
    · exact e.symm

/-- May these lengths be a code's? -/
def cok (ls : List Nat) (bw bn : Bool) : Prop := room ls ≤ 32768 ∧ (room ls = 32768 ∨ (bw = false ∧ many ls = 1 ∧ room ls = 16384) ∨ (bn = true ∧ many ls = 0))
theorem cok_own {ls : List Nat} : cok ls true false ↔ room ls = 32768 := by
  unfold cok
  constructor
  · rintro ⟨_, h | ⟨h, _⟩ | ⟨h, _⟩⟩
    · exact h
    · cases h
    · cases h
  · intro h; exact ⟨by omega, .inl h⟩
theorem whole_iff {ls : List Nat} (h : ∀ x ∈ ls, x ≤ 15) : whole ls = true ↔ (room ls = 32768 ∨ (many ls = 1 ∧ room ls = 16384)) := by
  unfold whole
  rw [decide_eq_true_iff]
  constructor
  · rintro (h1 | ⟨h1, h2⟩)
    · exact .inl h1
    · exact .inr ⟨h1, (one_half h h1).2 h2⟩
  · rintro (h1 | ⟨h1, h2⟩)
    · exact .inl h1
    · exact .inr ⟨h1, (one_half h h1).1 h2⟩
theorem fits_iff {row : List Nat} {l : Nat} (h : ∀ x ∈ row, x ≤ 15) : fits row l = true ↔ cok (row.take l) false false ∧ cok (row.drop l) false true := by
  have ht : ∀ x ∈ row.take l, x ≤ 15 := fun x hx => h x (List.mem_of_mem_take hx)
  have hd : ∀ x ∈ row.drop l, x ≤ 15 := fun x hx => h x (List.mem_of_mem_drop hx)
  unfold fits cok
  rw [Bool.and_eq_true, Bool.and_eq_true, Bool.or_eq_true, decide_eq_true_iff, decide_eq_true_iff, whole_iff ht, whole_iff hd]
  constructor
  · rintro ⟨⟨⟨h1, h2⟩, h3⟩, h4⟩
    refine ⟨⟨h1, ?_⟩, ⟨h2, ?_⟩⟩
    · rcases h3 with h3 | h3
      · exact .inl h3
      · exact .inr (.inl ⟨rfl, h3⟩)
    · rcases h4 with (h4 | h4) | h4
      · exact .inl h4
      · exact .inr (.inl ⟨rfl, h4⟩)
      · exact .inr (.inr ⟨rfl, h4⟩)
  · rintro ⟨⟨h1, h3⟩, ⟨h2, h4⟩⟩
    refine ⟨⟨⟨h1, h2⟩, ?_⟩, ?_⟩
    · rcases h3 with h3 | ⟨_, h3⟩ | ⟨h3, _⟩
      · exact .inl h3
      · exact .inr h3
      · cases h3
    · rcases h4 with h4 | ⟨_, h4⟩ | ⟨_, h4⟩
      · exact .inl (.inl h4)
      · exact .inl (.inr h4)
      · exact .inr h4

section
variable {B p : Nat} {rv : Value} {bs : List Nat} {lim nb er : Nat} {w : World} {ov : Value} {s : Sta}

/-- A fault, unless there is one. -/
def sf (er x : Nat) : Nat := if er = 0 then x else er
theorem fail_any (h : QS B p rv bs lim nb er w ov s) (x : Nat) (hx : x ≤ 15) :
    Calls Tryd.prog 48 #[.pointer (some ⟨p, 0, none⟩), .int .i64 (x : Nat)] w fun e w' => e = .returned (.tuple #[]) ∧ QS B p rv bs lim nb (sf er x) w' ov s ∧ Qv p w ov w' ov := by
  unfold sf
  by_cases h0 : er = 0
  · subst h0
    exact fail_yes h x hx
  · rw [if_neg h0]
    refine (fail_idle h h0 x).mono ?_
    rintro e w' ⟨rfl, rfl⟩
    exact ⟨rfl, h, Qv.refl _ _ _⟩

/-- What code leaves. -/
def CodeTo (B p : Nat) (rv : Value) (bs : List Nat) (lim nb er : Nat) (w : World) (ov : Value) (s : Sta) (ls : List Nat) (bw bn : Bool) (e : Ending) (w' : World) : Prop :=
  (cok ls bw bn ∧ ∃ pc, e = .returned (.pointer (some ⟨pc, 0, none⟩)) ∧ Cod w' p ov pc ls ∧ QS B p rv bs lim nb er w' ov s ∧ Below w.heap.size w w') ∨
  (¬ cok ls bw bn ∧ e = .returned (.pointer none) ∧ QS B p rv bs lim nb (sf er 10) w' ov s ∧ Qv p w ov w' ov)

set_option maxHeartbeats 3200000 in
theorem rcode_any (h : QS B p rv bs lim nb er w ov s) (ao : Option Addr) (c : Nat) (ls : List Nat) (hi : IS w ao (zn ls)) (hl : ls.length ≤ 320) (h15 : ∀ x ∈ ls, x ≤ 15) (bw bn : Bool) :
    Calls Tryd.prog 61 #[.pointer (some ⟨p, 0, none⟩), .slice ao ls.length c, .bool bw, .bool bn] w (CodeTo B p rv bs lim nb er w ov s ls bw bn) := by
  have hzl : (zn ls).length = ls.length := zn_len ls
  have hv : Vd (zn ls) := zn_vd h15 hl
  have X := Lib.hid h
  by_cases hm : 32768 < room ls
  · have HN := Lib.hid (rnew_form ao c (zn ls) w hi hv (by rw [zn_nat]; exact hm))
    rw [hzl] at HN
    have HC : Hid (¬ cok ls bw bn) := Lib.hid fun e => by have := e.1; omega
    clear h hi hv hm h15 hzl
    go_enter Tryd.func61, Tryd.ntmps61
    go_wp2_with fail
    refine HN.out.mono ?_
    rintro e w1 ⟨rfl, rfl⟩
    go_wp2_with fail
    refine (fail_any X.out 10 (by omega)).mono ?_
    rintro e w1 ⟨rfl, h1, m1⟩
    have H1 := Lib.hid h1
    have M1 := Lib.hid m1
    clear h1 m1
    go_wp2
    go_ret
    exact .inr ⟨HC.out, rfl, H1.out, M1.out⟩
  · have HN := Lib.hid (rnew_ok ao c (zn ls) ls w hi hv ⟨hl, h15, by omega⟩ (zn_nat ls))
    rw [hzl] at HN
    have HI := Lib.hid hi
    have H15 := Lib.hid h15
    have hT : room ls ≤ 32768 := by omega
    have HTP := Lib.hid h.top
    clear h hi hv hm h15 hzl
    go_enter Tryd.func61, Tryd.ntmps61
    go_wp2_with fail
    refine HN.out.mono ?_
    rintro e w1 ⟨pc, rfl, hst, hbel⟩
    have HI1 := Lib.hid (HI.out.below hbel)
    obtain ⟨h1, m1⟩ := X.out.grow hbel
    have X1 := Lib.hid h1
    have M1 := Lib.hid m1
    have c1 := (hst w1 (Touch.refl _ _)).2
    have HC1 : Hid (Cod w1 p ov pc ls) := Lib.hid fun w2 ht => (hst w2 (ht.mono fun k hk => HTP.out k hk)).1
    have HBL := Lib.hid hbel
    clear hst hbel h1 m1 X HI HN HTP
    go_wp2
    go_loopw [11, 12] (fun v11 v12 wr => ∃ i, i ≤ ls.length ∧ v11 = .int .i64 (many (ls.take i) : Nat) ∧ v12 = .int .i64 (i : Nat) ∧ wr = w1) (fun _ v12 _ => ls.length - (intOf v12).toNat)
    case atStart => exact ⟨0, Nat.zero_le _, by rw [List.take_zero, many_nil]; rfl, rfl, rfl⟩
    case round =>
      obtain ⟨i, hi, rfl, rfl, rfl⟩ := hrel
      have hml := many_le H15.out i hi
      by_cases hlt : i < ls.length
      · have hlt' : (i : Int) < ls.length := by omega
        have hmt := many_take H15.out hlt
        rcases HI1.out with he | ⟨b, off, rfl, hcell⟩
        · have := zn_len ls
          rw [he] at this
          simp at this
          omega
        · have g1 := hcell i (by rw [zn_len]; exact hlt)
          rw [zn_at] at g1
          obtain ⟨x, hx⟩ : ∃ x, x = ls.getD i 0 := ⟨_, rfl⟩
          obtain ⟨m, hmm⟩ : ∃ m, m = many (ls.take i) := ⟨_, rfl⟩
          rw [← hx] at g1 hmt
          rw [← hmm] at hmt hml ⊢
          have HMT := Lib.hid hmt
          clear hx hmm hcell hmt
          by_cases h0 : 0 < x
          · have h0' : (0 : Int) < x := by omega
            go_wp2
            go_roundw
            case rel => exact ⟨i + 1, by omega, by rw [HMT.out, if_pos h0]; go_num, by go_num, by trivial⟩
            case measure => simp [intOf]; omega
          · have h0' : x = 0 := by omega
            subst h0'
            go_wp2
            go_roundw
            case rel => exact ⟨i + 1, by omega, by rw [HMT.out, if_neg (by omega)]; go_num, by go_num, by trivial⟩
            case measure => simp [intOf]; omega
      · obtain rfl : i = ls.length := by omega
        rw [List.take_length] at hml ⊢
        obtain ⟨T, hTe⟩ : ∃ T, T = room ls := ⟨_, rfl⟩
        obtain ⟨M, hMe⟩ : ∃ M, M = many ls := ⟨_, rfl⟩
        have HCO : Hid (cok ls bw bn ↔ T ≤ 32768 ∧ (T = 32768 ∨ (bw = false ∧ M = 1 ∧ T = 16384) ∨ (bn = true ∧ M = 0))) := Lib.hid (by rw [hTe, hMe]; rfl)
        rw [← hTe] at c1 hT
        rw [← hMe] at hml ⊢
        clear hTe hMe hlt hi
        have hMc : M = 0 ∨ M = 1 ∨ 2 ≤ M := by omega
        have hTc : T = 32768 ∨ T = 16384 ∨ (T ≠ 32768 ∧ T ≠ 16384) := by omega
        cases bw
        · cases bn
          · rcases hMc with rfl | rfl | hM2
            · rcases hTc with rfl | rfl | ⟨hT1, hT2⟩
              · have HCK : Hid (cok ls false false) := Lib.hid (HCO.out.2 (by simp))
                clear HCO
                go_wp2
                go_ret
                exact .inl ⟨HCK.out, pc, rfl, HC1.out, X1.out, HBL.out⟩
              · have HCK : Hid (¬ cok ls false false) := Lib.hid (by rw [HCO.out]; simp; try omega)
                clear HCO
                go_wp2_with fail
                refine (fail_any X1.out 10 (by omega)).mono ?_
                rintro e w3 ⟨rfl, h3, m3⟩
                have H3 := Lib.hid h3
                have M3 := Lib.hid m3
                clear h3 m3
                go_wp2
                go_ret
                exact .inr ⟨HCK.out, rfl, H3.out, M1.out.trans M3.out⟩
              · have dC : ((T : Int) == 16384) = false := by simp; omega
                have dD : ((T : Int) != 32768) = true := by simp; omega
                have HCK : Hid (¬ cok ls false false) := Lib.hid (by rw [HCO.out]; simp; try omega)
                clear HCO hT1 hT2
                go_wp2_with fail
                refine (fail_any X1.out 10 (by omega)).mono ?_
                rintro e w3 ⟨rfl, h3, m3⟩
                have H3 := Lib.hid h3
                have M3 := Lib.hid m3
                clear h3 m3
                go_wp2
                go_ret
                exact .inr ⟨HCK.out, rfl, H3.out, M1.out.trans M3.out⟩
            · rcases hTc with rfl | rfl | ⟨hT1, hT2⟩
              · have HCK : Hid (cok ls false false) := Lib.hid (HCO.out.2 (by simp))
                clear HCO
                go_wp2
                go_ret
                exact .inl ⟨HCK.out, pc, rfl, HC1.out, X1.out, HBL.out⟩
              · have HCK : Hid (cok ls false false) := Lib.hid (HCO.out.2 (by simp))
                clear HCO
                go_wp2
                go_ret
                exact .inl ⟨HCK.out, pc, rfl, HC1.out, X1.out, HBL.out⟩
              · have dC : ((T : Int) == 16384) = false := by simp; omega
                have dD : ((T : Int) != 32768) = true := by simp; omega
                have HCK : Hid (¬ cok ls false false) := Lib.hid (by rw [HCO.out]; simp; try omega)
                clear HCO hT1 hT2
                go_wp2_with fail
                refine (fail_any X1.out 10 (by omega)).mono ?_
                rintro e w3 ⟨rfl, h3, m3⟩
                have H3 := Lib.hid h3
                have M3 := Lib.hid m3
                clear h3 m3
                go_wp2
                go_ret
                exact .inr ⟨HCK.out, rfl, H3.out, M1.out.trans M3.out⟩
            · rcases hTc with rfl | rfl | ⟨hT1, hT2⟩
              · have dA : ((M : Int) == 0) = false := by simp; omega
                have dB : ((M : Int) == 1) = false := by simp; omega
                have HCK : Hid (cok ls false false) := Lib.hid (HCO.out.2 (by simp))
                clear HCO hM2
                go_wp2
                go_ret
                exact .inl ⟨HCK.out, pc, rfl, HC1.out, X1.out, HBL.out⟩
              · have dA : ((M : Int) == 0) = false := by simp; omega
                have dB : ((M : Int) == 1) = false := by simp; omega
                have HCK : Hid (¬ cok ls false false) := Lib.hid (by rw [HCO.out]; simp; try omega)
                clear HCO hM2
                go_wp2_with fail
                refine (fail_any X1.out 10 (by omega)).mono ?_
                rintro e w3 ⟨rfl, h3, m3⟩
                have H3 := Lib.hid h3
                have M3 := Lib.hid m3
                clear h3 m3
                go_wp2
                go_ret
                exact .inr ⟨HCK.out, rfl, H3.out, M1.out.trans M3.out⟩
              · have dA : ((M : Int) == 0) = false := by simp; omega
                have dB : ((M : Int) == 1) = false := by simp; omega
                have dC : ((T : Int) == 16384) = false := by simp; omega
                have dD : ((T : Int) != 32768) = true := by simp; omega
                have HCK : Hid (¬ cok ls false false) := Lib.hid (by rw [HCO.out]; simp; try omega)
                clear HCO hM2 hT1 hT2
                go_wp2_with fail
                refine (fail_any X1.out 10 (by omega)).mono ?_
                rintro e w3 ⟨rfl, h3, m3⟩
                have H3 := Lib.hid h3
                have M3 := Lib.hid m3
                clear h3 m3
                go_wp2
                go_ret
                exact .inr ⟨HCK.out, rfl, H3.out, M1.out.trans M3.out⟩
          · rcases hMc with rfl | rfl | hM2
            · rcases hTc with rfl | rfl | ⟨hT1, hT2⟩
              · have HCK : Hid (cok ls false true) := Lib.hid (HCO.out.2 (by simp))
                clear HCO
                go_wp2
                go_ret
                exact .inl ⟨HCK.out, pc, rfl, HC1.out, X1.out, HBL.out⟩
              · have HCK : Hid (cok ls false true) := Lib.hid (HCO.out.2 (by simp))
                clear HCO
                go_wp2
                go_ret
                exact .inl ⟨HCK.out, pc, rfl, HC1.out, X1.out, HBL.out⟩
              · have dC : ((T : Int) == 16384) = false := by simp; omega
                have dD : ((T : Int) != 32768) = true := by simp; omega
                have HCK : Hid (cok ls false true) := Lib.hid (HCO.out.2 (by simp; omega))
                clear HCO hT1 hT2
                go_wp2
                go_ret
                exact .inl ⟨HCK.out, pc, rfl, HC1.out, X1.out, HBL.out⟩
            · rcases hTc with rfl | rfl | ⟨hT1, hT2⟩
              · have HCK : Hid (cok ls false true) := Lib.hid (HCO.out.2 (by simp))
                clear HCO
                go_wp2
                go_ret
                exact .inl ⟨HCK.out, pc, rfl, HC1.out, X1.out, HBL.out⟩
              · have HCK : Hid (cok ls false true) := Lib.hid (HCO.out.2 (by simp))
                clear HCO
                go_wp2
                go_ret
                exact .inl ⟨HCK.out, pc, rfl, HC1.out, X1.out, HBL.out⟩
              · have dC : ((T : Int) == 16384) = false := by simp; omega
                have dD : ((T : Int) != 32768) = true := by simp; omega
                have HCK : Hid (¬ cok ls false true) := Lib.hid (by rw [HCO.out]; simp; try omega)
                clear HCO hT1 hT2
                go_wp2_with fail
                refine (fail_any X1.out 10 (by omega)).mono ?_
                rintro e w3 ⟨rfl, h3, m3⟩
                have H3 := Lib.hid h3
                have M3 := Lib.hid m3
                clear h3 m3
                go_wp2
                go_ret
                exact .inr ⟨HCK.out, rfl, H3.out, M1.out.trans M3.out⟩
            · rcases hTc with rfl | rfl | ⟨hT1, hT2⟩
              · have dA : ((M : Int) == 0) = false := by simp; omega
                have dB : ((M : Int) == 1) = false := by simp; omega
                have HCK : Hid (cok ls false true) := Lib.hid (HCO.out.2 (by simp))
                clear HCO hM2
                go_wp2
                go_ret
                exact .inl ⟨HCK.out, pc, rfl, HC1.out, X1.out, HBL.out⟩
              · have dA : ((M : Int) == 0) = false := by simp; omega
                have dB : ((M : Int) == 1) = false := by simp; omega
                have HCK : Hid (¬ cok ls false true) := Lib.hid (by rw [HCO.out]; simp; try omega)
                clear HCO hM2
                go_wp2_with fail
                refine (fail_any X1.out 10 (by omega)).mono ?_
                rintro e w3 ⟨rfl, h3, m3⟩
                have H3 := Lib.hid h3
                have M3 := Lib.hid m3
                clear h3 m3
                go_wp2
                go_ret
                exact .inr ⟨HCK.out, rfl, H3.out, M1.out.trans M3.out⟩
              · have dA : ((M : Int) == 0) = false := by simp; omega
                have dB : ((M : Int) == 1) = false := by simp; omega
                have dC : ((T : Int) == 16384) = false := by simp; omega
                have dD : ((T : Int) != 32768) = true := by simp; omega
                have HCK : Hid (¬ cok ls false true) := Lib.hid (by rw [HCO.out]; simp; try omega)
                clear HCO hM2 hT1 hT2
                go_wp2_with fail
                refine (fail_any X1.out 10 (by omega)).mono ?_
                rintro e w3 ⟨rfl, h3, m3⟩
                have H3 := Lib.hid h3
                have M3 := Lib.hid m3
                clear h3 m3
                go_wp2
                go_ret
                exact .inr ⟨HCK.out, rfl, H3.out, M1.out.trans M3.out⟩
        · cases bn
          · rcases hMc with rfl | rfl | hM2
            · rcases hTc with rfl | rfl | ⟨hT1, hT2⟩
              · have HCK : Hid (cok ls true false) := Lib.hid (HCO.out.2 (by simp))
                clear HCO
                go_wp2
                go_ret
                exact .inl ⟨HCK.out, pc, rfl, HC1.out, X1.out, HBL.out⟩
              · have HCK : Hid (¬ cok ls true false) := Lib.hid (by rw [HCO.out]; simp; try omega)
                clear HCO
                go_wp2_with fail
                refine (fail_any X1.out 10 (by omega)).mono ?_
                rintro e w3 ⟨rfl, h3, m3⟩
                have H3 := Lib.hid h3
                have M3 := Lib.hid m3
                clear h3 m3
                go_wp2
                go_ret
                exact .inr ⟨HCK.out, rfl, H3.out, M1.out.trans M3.out⟩
              · have dC : ((T : Int) == 16384) = false := by simp; omega
                have dD : ((T : Int) != 32768) = true := by simp; omega
                have HCK : Hid (¬ cok ls true false) := Lib.hid (by rw [HCO.out]; simp; try omega)
                clear HCO hT1 hT2
                go_wp2_with fail
                refine (fail_any X1.out 10 (by omega)).mono ?_
                rintro e w3 ⟨rfl, h3, m3⟩
                have H3 := Lib.hid h3
                have M3 := Lib.hid m3
                clear h3 m3
                go_wp2
                go_ret
                exact .inr ⟨HCK.out, rfl, H3.out, M1.out.trans M3.out⟩
            · rcases hTc with rfl | rfl | ⟨hT1, hT2⟩
              · have HCK : Hid (cok ls true false) := Lib.hid (HCO.out.2 (by simp))
                clear HCO
                go_wp2
                go_ret
                exact .inl ⟨HCK.out, pc, rfl, HC1.out, X1.out, HBL.out⟩
              · have HCK : Hid (¬ cok ls true false) := Lib.hid (by rw [HCO.out]; simp; try omega)
                clear HCO
                go_wp2_with fail
                refine (fail_any X1.out 10 (by omega)).mono ?_
                rintro e w3 ⟨rfl, h3, m3⟩
                have H3 := Lib.hid h3
                have M3 := Lib.hid m3
                clear h3 m3
                go_wp2
                go_ret
                exact .inr ⟨HCK.out, rfl, H3.out, M1.out.trans M3.out⟩
              · have dC : ((T : Int) == 16384) = false := by simp; omega
                have dD : ((T : Int) != 32768) = true := by simp; omega
                have HCK : Hid (¬ cok ls true false) := Lib.hid (by rw [HCO.out]; simp; try omega)
                clear HCO hT1 hT2
                go_wp2_with fail
                refine (fail_any X1.out 10 (by omega)).mono ?_
                rintro e w3 ⟨rfl, h3, m3⟩
                have H3 := Lib.hid h3
                have M3 := Lib.hid m3
                clear h3 m3
                go_wp2
                go_ret
                exact .inr ⟨HCK.out, rfl, H3.out, M1.out.trans M3.out⟩
            · rcases hTc with rfl | rfl | ⟨hT1, hT2⟩
              · have dA : ((M : Int) == 0) = false := by simp; omega
                have dB : ((M : Int) == 1) = false := by simp; omega
                have HCK : Hid (cok ls true false) := Lib.hid (HCO.out.2 (by simp))
                clear HCO hM2
                go_wp2
                go_ret
                exact .inl ⟨HCK.out, pc, rfl, HC1.out, X1.out, HBL.out⟩
              · have dA : ((M : Int) == 0) = false := by simp; omega
                have dB : ((M : Int) == 1) = false := by simp; omega
                have HCK : Hid (¬ cok ls true false) := Lib.hid (by rw [HCO.out]; simp; try omega)
                clear HCO hM2
                go_wp2_with fail
                refine (fail_any X1.out 10 (by omega)).mono ?_
                rintro e w3 ⟨rfl, h3, m3⟩
                have H3 := Lib.hid h3
                have M3 := Lib.hid m3
                clear h3 m3
                go_wp2
                go_ret
                exact .inr ⟨HCK.out, rfl, H3.out, M1.out.trans M3.out⟩
              · have dA : ((M : Int) == 0) = false := by simp; omega
                have dB : ((M : Int) == 1) = false := by simp; omega
                have dC : ((T : Int) == 16384) = false := by simp; omega
                have dD : ((T : Int) != 32768) = true := by simp; omega
                have HCK : Hid (¬ cok ls true false) := Lib.hid (by rw [HCO.out]; simp; try omega)
                clear HCO hM2 hT1 hT2
                go_wp2_with fail
                refine (fail_any X1.out 10 (by omega)).mono ?_
                rintro e w3 ⟨rfl, h3, m3⟩
                have H3 := Lib.hid h3
                have M3 := Lib.hid m3
                clear h3 m3
                go_wp2
                go_ret
                exact .inr ⟨HCK.out, rfl, H3.out, M1.out.trans M3.out⟩
          · rcases hMc with rfl | rfl | hM2
            · rcases hTc with rfl | rfl | ⟨hT1, hT2⟩
              · have HCK : Hid (cok ls true true) := Lib.hid (HCO.out.2 (by simp))
                clear HCO
                go_wp2
                go_ret
                exact .inl ⟨HCK.out, pc, rfl, HC1.out, X1.out, HBL.out⟩
              · have HCK : Hid (cok ls true true) := Lib.hid (HCO.out.2 (by simp))
                clear HCO
                go_wp2
                go_ret
                exact .inl ⟨HCK.out, pc, rfl, HC1.out, X1.out, HBL.out⟩
              · have dC : ((T : Int) == 16384) = false := by simp; omega
                have dD : ((T : Int) != 32768) = true := by simp; omega
                have HCK : Hid (cok ls true true) := Lib.hid (HCO.out.2 (by simp; omega))
                clear HCO hT1 hT2
                go_wp2
                go_ret
                exact .inl ⟨HCK.out, pc, rfl, HC1.out, X1.out, HBL.out⟩
            · rcases hTc with rfl | rfl | ⟨hT1, hT2⟩
              · have HCK : Hid (cok ls true true) := Lib.hid (HCO.out.2 (by simp))
                clear HCO
                go_wp2
                go_ret
                exact .inl ⟨HCK.out, pc, rfl, HC1.out, X1.out, HBL.out⟩
              · have HCK : Hid (¬ cok ls true true) := Lib.hid (by rw [HCO.out]; simp; try omega)
                clear HCO
                go_wp2_with fail
                refine (fail_any X1.out 10 (by omega)).mono ?_
                rintro e w3 ⟨rfl, h3, m3⟩
                have H3 := Lib.hid h3
                have M3 := Lib.hid m3
                clear h3 m3
                go_wp2
                go_ret
                exact .inr ⟨HCK.out, rfl, H3.out, M1.out.trans M3.out⟩
              · have dC : ((T : Int) == 16384) = false := by simp; omega
                have dD : ((T : Int) != 32768) = true := by simp; omega
                have HCK : Hid (¬ cok ls true true) := Lib.hid (by rw [HCO.out]; simp; try omega)
                clear HCO hT1 hT2
                go_wp2_with fail
                refine (fail_any X1.out 10 (by omega)).mono ?_
                rintro e w3 ⟨rfl, h3, m3⟩
                have H3 := Lib.hid h3
                have M3 := Lib.hid m3
                clear h3 m3
                go_wp2
                go_ret
                exact .inr ⟨HCK.out, rfl, H3.out, M1.out.trans M3.out⟩
            · rcases hTc with rfl | rfl | ⟨hT1, hT2⟩
              · have dA : ((M : Int) == 0) = false := by simp; omega
                have dB : ((M : Int) == 1) = false := by simp; omega
                have HCK : Hid (cok ls true true) := Lib.hid (HCO.out.2 (by simp))
                clear HCO hM2
                go_wp2
                go_ret
                exact .inl ⟨HCK.out, pc, rfl, HC1.out, X1.out, HBL.out⟩
              · have dA : ((M : Int) == 0) = false := by simp; omega
                have dB : ((M : Int) == 1) = false := by simp; omega
                have HCK : Hid (¬ cok ls true true) := Lib.hid (by rw [HCO.out]; simp; try omega)
                clear HCO hM2
                go_wp2_with fail
                refine (fail_any X1.out 10 (by omega)).mono ?_
                rintro e w3 ⟨rfl, h3, m3⟩
                have H3 := Lib.hid h3
                have M3 := Lib.hid m3
                clear h3 m3
                go_wp2
                go_ret
                exact .inr ⟨HCK.out, rfl, H3.out, M1.out.trans M3.out⟩
              · have dA : ((M : Int) == 0) = false := by simp; omega
                have dB : ((M : Int) == 1) = false := by simp; omega
                have dC : ((T : Int) == 16384) = false := by simp; omega
                have dD : ((T : Int) != 32768) = true := by simp; omega
                have HCK : Hid (¬ cok ls true true) := Lib.hid (by rw [HCO.out]; simp; try omega)
                clear HCO hM2 hT1 hT2
                go_wp2_with fail
                refine (fail_any X1.out 10 (by omega)).mono ?_
                rintro e w3 ⟨rfl, h3, m3⟩
                have H3 := Lib.hid h3
                have M3 := Lib.hid m3
                clear h3 m3
                go_wp2
                go_ret
                exact .inr ⟨HCK.out, rfl, H3.out, M1.out.trans M3.out⟩
end
end Go.Proofs.YtnnkegpnjedneaaDoor

/-
  Toward told of the reference's run: its reading in one piece, numbers and symbols with a fault or without one.
-/
namespace Go.Proofs.YtnnkegpnjedneaaDoor
open Go.RowKit
set_option maxRecDepth 100000

theorem Res.bind_assoc {α β γ : Type} (r : Res α) (f : α → Sta → Res β) (g : β → Sta → Res γ) : (r.bind f).bind g = r.bind fun a s => (f a s).bind g := by cases r <;> rfl

def told5 (bs : List Nat) (lim l : Nat) (row : List Nat) (s : Sta) : Res Unit :=
  if row.getD 256 0 = 0 then .bad 10 else if fits row (257 + l) then syms bs lim (row.take (257 + l)) (row.drop (257 + l)) s else .bad 10
def told4 (bs : List Nat) (lim l d : Nat) (o : List Nat) (s : Sta) : Res Unit :=
  if room (ownOf o) ≠ 32768 then .bad 10 else (lens bs (ownOf o) (258 + l + d) s).bind (told5 bs lim l)
def told3 (bs : List Nat) (lim l d c : Nat) (s : Sta) : Res Unit :=
  if 29 < l ∨ 29 < d then .bad 10 else (rdO bs (4 + c) [] s).bind (told4 bs lim l d)
def toldR (bs : List Nat) (lim : Nat) (s : Sta) : Res Unit :=
  (rdN bs 5 s).bind fun l s1 => (rdN bs 5 s1).bind fun d s2 => (rdN bs 4 s2).bind fun c s3 => told3 bs lim l d c s3
theorem toldR_eq (bs : List Nat) (lim : Nat) (s : Sta) : ((codes bs s).bind fun c s2 => syms bs lim c.1 c.2 s2) = toldR bs lim s := by
  unfold codes toldR
  simp only [Res.bind_assoc]
  congr 1
  funext l s1
  congr 1
  funext d s2
  congr 1
  funext c s3
  unfold told3
  split
  · rfl
  · simp only [Res.bind_assoc]
    congr 1
    funext o s4
    unfold told4
    split
    · rfl
    · simp only [Res.bind_assoc]
      congr 1
      funext row s5
      unfold told5
      split
      · rfl
      · split <;> rfl

/-- A reading that stands, unless there is a fault. -/
def Gd {β : Type} (R : Res β) (er : Nat) (x : Res β) : Prop := (er = 0 → R = x) ∧ (er ≠ 0 → R = .bad er)
theorem Gd.fine {β : Type} {R x : Res β} (h : Gd R 0 x) : R = x := h.1 rfl
theorem Gd.of {β : Type} {R x : Res β} (h : R = x) : Gd R 0 x := ⟨fun _ => h, fun h => absurd rfl h⟩
theorem Gd.bad {β : Type} {R x : Res β} {er : Nat} (h : R = .bad er) (h0 : er ≠ 0) : Gd R er x := ⟨fun e => absurd e h0, fun _ => h⟩

section
variable {B p : Nat} {rv : Value} {bs : List Nat} {lim nb er : Nat} {w : World} {ov : Value} {s : Sta}

theorem num_go {β : Type} {R : Res β} {k : Nat → Sta → Res β} (h : QS B p rv bs lim nb er w ov s) (n : Nat) (hn : n ≤ 16) (hg : Gd R er ((rdN bs n s).bind k)) :
    Calls Tryd.prog 43 #[.pointer (some ⟨p, 0, none⟩), .int .i64 n] w fun e w' => ∃ (v er' : Nat) (s' : Sta) (ov' : Value),
      e = .returned (.int .i64 (v : Nat)) ∧ v < 2 ^ n ∧ QS B p rv bs lim nb er' w' ov' s' ∧ Qv p w ov w' ov' ∧ Gd R er' (k v s') ∧ (er' = 0 → er = 0) := by
  by_cases h0 : er = 0
  · subst h0
    refine (num_any h n hn).mono ?_
    intro e w' h1
    have hR := hg.fine
    cases hr : rdN bs n s with
    | bad er =>
      rw [hr] at h1 hR
      obtain rfl := rdN_er hr
      obtain ⟨rfl, ov1, s1, h1, m1⟩ := h1
      exact ⟨0, 15, s1, ov1, rfl, Nat.two_pow_pos n, h1, m1, .bad hR (by omega), fun _ => rfl⟩
    | ok v s1 =>
      rw [hr] at h1 hR
      obtain ⟨rfl, ov1, h1, m1⟩ := h1
      exact ⟨v, 0, s1, ov1, rfl, rdN_lt hr, h1, m1, .of hR, fun _ => rfl⟩
  · refine (num_idle h h0 n).mono ?_
    rintro e w' ⟨rfl, q, rfl⟩
    exact ⟨0, er, s, ov, rfl, Nat.two_pow_pos n, (h.drewN q).1, (h.drewN q).2, .bad (hg.2 h0) h0, fun e => e⟩
theorem sym_go {β : Type} {R : Res β} {k : Nat → Sta → Res β} {pc : Nat} {ls : List Nat} (h : QS B p rv bs lim nb 0 w ov s) (hc : Cod w p ov pc ls) (H : Ok ls) (hg : R = (rdS bs ls s).bind k) :
    Calls Tryd.prog 59 #[.pointer (some ⟨p, 0, none⟩), .pointer (some ⟨pc, 0, none⟩)] w fun e w' => ∃ (y er' : Nat) (s' : Sta) (ov' : Value),
      e = .returned (.int .i64 (y : Nat)) ∧ (er' ≠ 0 → y = 0) ∧ y ≤ ls.length - 1 ∧ QS B p rv bs lim nb er' w' ov' s' ∧ Qv p w ov w' ov' ∧ Gd R er' (k y s') := by
  refine (symq_any h hc H).mono ?_
  intro e w' h1
  cases hr : rdS bs ls s with
  | bad er =>
    rw [hr] at h1 hg
    have her := rdS_er hr
    obtain ⟨rfl, ov1, s1, h1, m1⟩ := h1
    exact ⟨0, er, s1, ov1, rfl, fun _ => rfl, Nat.zero_le _, h1, m1, .bad hg (by omega)⟩
  | ok y s1 =>
    rw [hr] at h1 hg
    obtain ⟨rfl, ov1, h1, m1⟩ := h1
    obtain ⟨_, k1, _, _⟩ := rdS_is hr
    have := ln_lt (ls := ls) (s := y) (by omega)
    exact ⟨y, 0, s1, ov1, rfl, fun e => absurd rfl e, by omega, h1, m1, .of hg⟩

/-- Blocks beside the run change. -/
theorem QS.aside {S : Nat → Prop} {w' : World} (h : QS B p rv bs lim nb er w ov s) (ht : Touch S w w') (h1 : ¬ S p) (h2 : ∀ k, ov.ownBlock = some k → ¬ S k) (h3 : ∀ k, rv.ownBlock = some k → ¬ S k) : QS B p rv bs lim nb er w' ov s :=
  ⟨h.blk.touch ht h1, ownsRow_touch h.row ht h3, ownsRow_touch h.own ht h2, h.ne, h.hp, h.len, h.lim_, h.in_, h.out, h.steps, h.nb_, h.er_, h.bytes, h.bsb⟩
theorem Qv.aside {S : Nat → Prop} {w1 w' : World} {ov1 : Value} (m : Qv p w ov w1 ov1) (ht : Touch S w1 w') (h1 : ∀ k, S k → w.heap.size ≤ k) : Qv p w ov w' ov1 :=
  ⟨m.touch.trans' ht fun i hi hlt => by have := h1 i hi; omega, m.row⟩
/-- A block of another type is none of the run's. -/
theorem QS.other (h : QS B p rv bs lim nb er w ov s) {k t : Nat} {cs : Array Value} (hk : w.heap[k]? = some (.cells cs t (0, 0))) (h57 : t ≠ 57) (h5 : t ≠ 5) : k ≠ p ∧ (∀ i, ov.ownBlock = some i → i ≠ k) ∧ (∀ i, rv.ownBlock = some i → i ≠ k) := by
  refine ⟨?_, fun i hi e => ?_, fun i hi e => ?_⟩
  · rintro rfl
    have hb := h.blk
    rw [Blk, hk] at hb
    simp at hb
    exact h57 hb.2
  · subst e
    obtain ⟨cs', hc⟩ := own_ty h.own hi
    rw [hk] at hc
    simp at hc
    exact h5 hc.2
  · subst e
    obtain ⟨cs', hc⟩ := own_ty h.row hi
    rw [hk] at hc
    simp at hc
    exact h5 hc.2
/-- A row of items of the call's own grows. -/
theorem QS.rowItems {w' : World} {base n : Nat} {v : Value} {xs : List Value} (h : QS B p rv bs lim nb er w ov s) (hv : w.ownsRow base 112 2 v n xs) (ht : Touch (fun k => v.ownBlock = some k) w w') : QS B p rv bs lim nb er w' ov s := by
  have key : ∀ k, v.ownBlock = some k → k ≠ p ∧ (∀ i, ov.ownBlock = some i → i ≠ k) ∧ (∀ i, rv.ownBlock = some i → i ≠ k) := fun k hk => by
    obtain ⟨cs, hc⟩ := own_ty hv hk
    exact h.other hc (by decide) (by decide)
  exact h.aside ht (fun e => (key p e).1 rfl) (fun k hk e => (key k e).2.1 k hk rfl) (fun k hk e => (key k e).2.2 k hk rfl)
theorem QS.keepItems {w' : World} {base n : Nat} {v : Value} {xs : List Value} (h : QS B p rv bs lim nb er w ov s) (hv : w.ownsRow base 112 2 v n xs) (ht : Touch (QT p ov) w w') : w'.ownsRow base 112 2 v n xs := by
  refine ownsRow_touch hv ht fun k hk e => ?_
  obtain ⟨cs, hc⟩ := own_ty hv hk
  obtain ⟨k1, k2, _⟩ := h.other hc (by decide) (by decide)
  rcases e with e | e
  · exact k1 e
  · exact k2 k e rfl
end

/-! ### Items, one by one -/
theorem un_app (r : List (Int × Int)) (x : Int × Int) : ∀ ts, Z.un (r ++ [x]) ts = (Z.un r ts).bind fun u => Z.un [x] u := by
  induction r with
  | nil => intro ts; rfl
  | cons y r ih =>
    intro ts
    obtain ⟨a, b⟩ := y
    rw [List.cons_append, Z.un, Z.un]
    split
    · rfl
    · exact ih _
theorem last_zn (row : List Nat) (_h : row ≠ []) : (zn row).getD ((zn row).length - 1) 0 = (row.getLastD 0 : Nat) := by
  rw [zn_len, zn_at, List.getLastD_eq_getLast?, List.getLast?_eq_getElem?, List.getD_eq_getElem?_getD]
theorem un_next {y v : Nat} {row : List Nat} (hy : y ≤ 18) (h0 : y < 16 → v = 0) (hv : v < 2 ^ xb y) (hrow : row.length ≤ 320) :
    Z.un [((y : Int), (v : Int))] (zn row) = match told y v row with
      | none => none
      | some t => if 320 < (row ++ t).length then none else some (zn (row ++ t)) := by
  rw [told_eq hy h0]
  have hl := zn_len row
  by_cases hn : y = 16 ∧ row = []
  · rw [if_pos hn]
    obtain ⟨rfl, rfl⟩ := hn
    exact un_none v
  · rw [if_neg hn]
    have hq : (∃ q, Z.spl y = q ∧ (if y = 16 then 3 else if y = 17 then 3 else if y = 18 then 11 else 1) = q ∧ ((y : Int) = 16 ∧ (zn row).length = 0 → False) ∧ ¬ Z.Bad 0 18 y ∧ ¬ Z.Bad 0 ((Z.spm y : Int) - Z.spl y) v) ∧ Z.tv y (zn row) = ((if y = 16 then row.getLastD 0 else if y = 17 then 0 else if y = 18 then 0 else y : Nat) : Int) := by
      by_cases h1 : y < 16
      · have e16 : ¬ (y : Int) = 16 := by omega
        have e17 : ¬ (y : Int) = 17 := by omega
        have e18 : ¬ (y : Int) = 18 := by omega
        have f16 : ¬ y = 16 := by omega
        have f17 : ¬ y = 17 := by omega
        have f18 : ¬ y = 18 := by omega
        have hv0 := h0 h1
        unfold Z.Bad Z.spl Z.spm Z.tv
        refine ⟨⟨1, by simp [e16, e17, e18], by simp [f16, f17, f18], fun e => e16 e.1, by omega, by simp [e16, e17, e18]; omega⟩, by simp [e16, e17, e18, f16, f17, f18]⟩
      · have hb : y = 16 ∨ y = 17 ∨ y = 18 := by omega
        rcases hb with rfl | rfl | rfl
        · have hne : row ≠ [] := fun e => hn ⟨rfl, e⟩
          have hp : row.length ≠ 0 := by simpa using hne
          have hv4 : v < 4 := hv
          unfold Z.Bad Z.spl Z.spm Z.tv
          refine ⟨⟨3, by simp, by simp, fun e => by omega, by omega, by simp; omega⟩, ?_⟩
          rw [if_pos rfl, if_pos (show ((16 : Nat) : Int) = 16 from rfl)]
          exact last_zn row hne
        · have hv4 : v < 8 := hv
          unfold Z.Bad Z.spl Z.spm Z.tv
          refine ⟨⟨3, by simp, by simp, fun e => by omega, by omega, by simp; omega⟩, by simp⟩
        · have hv4 : v < 128 := hv
          unfold Z.Bad Z.spl Z.spm Z.tv
          refine ⟨⟨11, by simp, by simp, fun e => by omega, by omega, by simp; omega⟩, by simp⟩
    obtain ⟨⟨q, k1, k2, k3, k4, k5⟩, k6⟩ := hq
    have hlen : (row ++ told1 y v row).length = row.length + (q + v) := by
      unfold told1
      rw [List.length_append, List.length_replicate, k2]
    simp only [hlen]
    unfold Z.un
    by_cases hbig : 320 < row.length + (q + v)
    · rw [if_pos hbig, if_pos (.inr (.inr (.inr (by rw [hl, k1]; omega))))]
    · rw [if_neg hbig, if_neg, k1, k6]
      · unfold Z.un told1
        rw [k2, zn_app]
        congr 1
        congr 1
        unfold zn
        rw [List.map_replicate]
        congr 1
      · rintro (e | e | e | e)
        · exact k4 e
        · exact k5 e
        · exact k3 e
        · rw [hl, k1] at e; omega

/-- What follows the row of lengths so far. -/
def lk (bs own : List Nat) (n : Nat) (k : List Nat → Sta → Res Unit) (row : List Nat) (s : Sta) : Res Unit :=
  if row.length = n then k row s else (run (8 * bs.length) (len1 bs own n) row s).bind k
def nextL (bs own : List Nat) (n : Nat) (k : List Nat → Sta → Res Unit) (row : List Nat) (y v : Nat) (s : Sta) : Res Unit :=
  match told y v row with
  | none => .bad 10
  | some t => if n < (row ++ t).length then .bad 10 else lk bs own n k (row ++ t) s
theorem lk_eq {bs own : List Nat} {n : Nat} {k : List Nat → Sta → Res Unit} {row : List Nat} {s : Sta} (h : row.length ≠ n) (hs : s.at_ ≤ 8 * bs.length) :
    lk bs own n k row s = (rdS bs own s).bind fun y s1 => if 16 ≤ y ∧ y ≤ 18 then (rdN bs (xb y) s1).bind fun v s2 => nextL bs own n k row y v s2 else nextL bs own n k row y 0 s1 := by
  unfold lk
  rw [if_neg h, lens_eq own n row hs]
  unfold nxt itm
  simp only [Res.bind_assoc]
  congr 1
  funext y s1
  have key : ∀ (v : Nat) (s2 : Sta), ((match told y v row with
      | none => Res.bad 10
      | some t => Res.ok t s2).bind fun t s1 => ((if n < (row ++ t).length then Res.bad 10 else if (row ++ t).length = n then Res.ok (row ++ t) s1 else run (8 * bs.length) (len1 bs own n) (row ++ t) s1) : Res (List Nat)).bind k) = nextL bs own n k row y v s2 := by
    intro v s2
    unfold nextL
    cases told y v row with
    | none => rfl
    | some t =>
      simp only [Res.bind_ok]
      split
      · rfl
      · unfold lk
        split <;> rfl
  split
  · simp only [Res.bind_assoc]
    congr 1
    funext v s2
    exact key v s2
  · exact key 0 s1
end Go.Proofs.YtnnkegpnjedneaaDoor

