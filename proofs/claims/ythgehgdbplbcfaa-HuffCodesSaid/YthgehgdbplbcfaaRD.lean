/-
  Contract of the reference's Next.
-/
import Derived.Test.YthgehgdbplbcfaaRB
namespace Go.Proofs.Ythgehgdbplbcfaa
open Go.RowKit

/-- The first k bits of a code are those of the row. -/
def eqs (ls rb : List Nat) (at_ s k : Nat) : Bool := decide (∀ j, j < k → (cb ls s).getD j 0 = rb.getD (at_ + j) 0)
theorem eqs_zero (ls rb : List Nat) (at_ s : Nat) : eqs ls rb at_ s 0 = true := by simp [eqs]
theorem eqs_step (ls rb : List Nat) (at_ s k : Nat) (h : eqs ls rb at_ s k = true) : eqs ls rb at_ s (k + 1) = decide ((cb ls s).getD k 0 = rb.getD (at_ + k) 0) := by
  unfold eqs at h ⊢
  have h' := of_decide_eq_true h
  by_cases e : (cb ls s).getD k 0 = rb.getD (at_ + k) 0
  · rw [decide_eq_true e]
    refine decide_eq_true fun j hj => ?_
    by_cases ej : j = k
    · subst ej; exact e
    · exact h' j (by omega)
  · rw [decide_eq_false e]
    exact decide_eq_false fun f => e (f k (by omega))
theorem eqs_mono {ls rb : List Nat} {at_ s k m : Nat} (h : eqs ls rb at_ s m = true) (hk : k ≤ m) : eqs ls rb at_ s k = true := by
  unfold eqs at h ⊢
  have h' := of_decide_eq_true h
  exact decide_eq_true fun j hj => h' j (by omega)

/-- What is left of the row is the code's beginning, or begins with the code. -/
def Ft (ls rb : List Nat) (at_ s : Nat) : Bool := eqs ls rb at_ s (min (ln ls s) (rb.length - at_))
def anyFt (ls rb : List Nat) (at_ s : Nat) : Bool := (List.range s).any fun t => decide (ln ls t ≠ 0) && Ft ls rb at_ t
theorem anyFt_step (ls rb : List Nat) (at_ s : Nat) : anyFt ls rb at_ (s + 1) = (anyFt ls rb at_ s || (decide (ln ls s ≠ 0) && Ft ls rb at_ s)) := by
  simp [anyFt, List.range_succ]

theorem Ft_no {ls rb : List Nat} {at_ s k n : Nat} (hn : ln ls s = n) (hk : k ≤ n) (hl : at_ + k ≤ rb.length) (h : eqs ls rb at_ s k = false) : Ft ls rb at_ s = false := by
  cases hf : Ft ls rb at_ s with
  | false => rfl
  | true =>
    unfold Ft at hf
    rw [eqs_mono hf (k := k) (by omega)] at h
    exact h
theorem Ft_of {ls rb : List Nat} {at_ s k n : Nat} (hn : ln ls s = n) (hk : k = min n (rb.length - at_)) (h : eqs ls rb at_ s k = true) : Ft ls rb at_ s = true := by
  unfold Ft
  rw [hn, ← hk]
  exact h

/-- Of the first s symbols none is there whole. -/
def NoFull (ls rb : List Nat) (at_ s : Nat) : Prop := ∀ t, t < s → ln ls t ≠ 0 → Ft ls rb at_ t = true → rb.length < at_ + ln ls t

def RNextTo (ls rb : List Nat) (at_ : Nat) (w : World) (e : Ending) (w' : World) : Prop :=
  ((∃ s n : Nat, ln ls s = n ∧ n ≠ 0 ∧ Ft ls rb at_ s = true ∧ at_ + n ≤ rb.length ∧ e = .returned (.tuple #[.int .i64 s, .int .i64 n, .int .i64 0])) ∨
   (NoFull ls rb at_ ls.length ∧ (anyFt ls rb at_ ls.length = true ∨ rb.length ≤ at_) ∧ e = .returned (.tuple #[.int .i64 0, .int .i64 0, .int .i64 15])) ∨
   (anyFt ls rb at_ ls.length = false ∧ at_ < rb.length ∧ e = .returned (.tuple #[.int .i64 0, .int .i64 0, .int .i64 10]))) ∧ ∃ q, w' = w.drewN q

theorem BySl.len {w : World} {v : Value} {xs : List Nat} (h : BySl w v xs) : ∃ ao c, v = .slice ao xs.length c := by
  rcases h with ⟨rfl, rfl⟩ | ⟨ad, c, rfl, _⟩
  · exact ⟨none, 0, rfl⟩
  · exact ⟨some ad, c, rfl⟩
theorem BySl.get {w : World} {ao : Option Addr} {n c : Nat} {xs : List Nat} (h : BySl w (.slice ao n c) xs) (j : Nat) (hj : j < xs.length) : ∃ b off, ao = some ⟨b, off, none⟩ ∧ w.cell? ⟨b, off + j, none⟩ = some (.int .u8 (xs.getD j 0 : Nat)) := by
  obtain ⟨b, off, c', he, _, hc⟩ := h.at (by omega)
  simp only [Value.slice.injEq] at he
  exact ⟨b, off, he.1, hc j hj⟩

set_option maxRecDepth 100000 in
set_option maxHeartbeats 6400000 in
theorem rnext_any (p : Nat) (ls : List Nat) (ao : Option Addr) (c : Nat) (rb : List Nat) (at_ : Nat) (w : World) (h : RAt w p ls) (hr : BySl w (.slice ao rb.length c) rb) (hls : ls.length ≤ 320) (hl15 : ∀ s, ln ls s ≤ 15) (hL : rb.length ≤ 100000) (hat : at_ ≤ rb.length) :
    Calls Try.prog 22 #[.pointer (some ⟨p, 0, none⟩), .slice ao rb.length c, .int .i64 at_] w (RNextTo ls rb at_ w) := by
  obtain ⟨gl, rm, F, c0, c1, hF⟩ := h
  have HF := Lib.hid hF
  have HR := Lib.hid hr
  have HL15 := Lib.hid hl15
  clear hF hr hl15 c1
  go_enter Try.func22, Try.ntmps22
  go_wp2
  go_loopw [9, 10] (fun pv sv wr => ∃ s q : Nat, s ≤ ls.length ∧ sv = .int .i64 s ∧ pv = .bool (anyFt ls rb at_ s) ∧ NoFull ls rb at_ s ∧ wr = w.drewN q) (fun _ sv _ => ls.length - (intOf sv).toNat)
  case atStart => exact ⟨0, 0, Nat.zero_le _, rfl, rfl, fun t ht => absurd ht (Nat.not_lt_zero t), rfl⟩
  case round =>
    obtain ⟨s, q, hs, rfl, rfl, hno, rfl⟩ := hrel
    have HNO := Lib.hid hno
    clear hno
    by_cases hlt : s < ls.length
    · have hss : (s : Int) < ls.length := by omega
      obtain ⟨f1, f2⟩ := HF.out s hlt
      obtain ⟨a1, k1, hfs⟩ := f2.len
      rw [cb_len] at hfs
      rw [hfs] at f1 f2
      have H2 := Lib.hid f2
      clear f2 hfs
      have hn15 := HL15.out s
      obtain ⟨n, hn⟩ : ∃ n, n = ln ls s := ⟨_, rfl⟩
      rw [← hn] at f1 hn15 H2
      have HN := Lib.hid hn.symm
      clear hn
      by_cases h0 : n = 0
      · subst h0
        have HS : Hid (anyFt ls rb at_ (s + 1) = anyFt ls rb at_ s) := Lib.hid (by rw [anyFt_step, HN.out]; simp)
        go_wp2
        go_roundw
        case rel =>
          refine ⟨s + 1, _, by omega, by go_num, by rw [HS.out], fun t ht hn0 hf => ?_, rfl⟩
          by_cases e : t = s
          · subst e; exact absurd HN.out hn0
          · exact HNO.out t (by omega) hn0 hf
        case measure => simp [intOf]; omega
      · have hb0 : ((n : Int) == 0) = false := by simp; omega
        have hn1 : 1 ≤ n := by omega
        clear h0
        go_wp2
        go_loopw [12, 13] (fun fv kv wr => ∃ k q : Nat, k ≤ n ∧ at_ + k ≤ rb.length ∧ kv = .int .i64 k ∧ fv = .bool (eqs ls rb at_ s k) ∧ wr = w.drewN q) (fun _ kv _ => n - (intOf kv).toNat)
        case atStart => exact ⟨0, _, Nat.zero_le _, by omega, rfl, by rw [eqs_zero], rfl⟩
        case round =>
          obtain ⟨k, q2, hk, hak, rfl, rfl, rfl⟩ := hrel
          obtain ⟨fb, hfb⟩ : ∃ fb, fb = eqs ls rb at_ s k := ⟨_, rfl⟩
          have HFB := Lib.hid hfb
          rw [← hfb]
          clear hfb
          by_cases hgo : k < n ∧ at_ + k < rb.length ∧ fb = true
          · obtain ⟨hkn, hal, rfl⟩ := hgo
            have hkn' : (k : Int) < n := by omega
            have hal' : (at_ : Int) + k < rb.length := by omega
            obtain ⟨b1, o1, rfl, g1⟩ := H2.out.get k (by rw [cb_len, HN.out]; exact hkn)
            obtain ⟨b2, o2, rfl, g2⟩ := HR.out.get (at_ + k) hal
            have HES := Lib.hid (eqs_step ls rb at_ s k HFB.out.symm)
            obtain ⟨x, hx⟩ : ∃ x, x = (cb ls s).getD k 0 := ⟨_, rfl⟩
            obtain ⟨y, hy⟩ : ∃ y, y = rb.getD (at_ + k) 0 := ⟨_, rfl⟩
            rw [← hx] at g1 HES
            rw [← hy] at g2 HES
            have e1 : IntKind.i64.wrap ((at_ : Int) + k) = (at_ : Int) + k := by rw [IntKind.wrap_i64]; omega
            have e2 : (0 : Int) ≤ (at_ : Int) + k := by omega
            have e3 : ((at_ : Int) + k).toNat = at_ + k := by omega
            clear hx hy
            go_wp2
            go_quiet (fail)
            go_wp2
            have hxy : ((x : Int) == y) = decide (x = y) := by rw [Bool.eq_iff_iff]; simp; omega
            rw [← hxy] at HES
            clear hxy
            go_roundw
            case rel => exact ⟨k + 1, _, by omega, by omega, by go_num, by rw [HES.out], rfl⟩
            case measure => simp [intOf]; omega
          · by_cases hkn : k < n
            · have hkn' : (k : Int) < n := by omega
              have hke : ((k : Int) == n) = false := by simp; omega
              by_cases hal : at_ + k < rb.length
              · have hal' : (at_ : Int) + k < rb.length := by omega
                obtain rfl : fb = false := by
                  cases fb
                  · rfl
                  · exact absurd ⟨hkn, hal, rfl⟩ hgo
                have HFT : Hid (Ft ls rb at_ s = false) := Lib.hid (Ft_no HN.out (by omega) hak HFB.out.symm)
                clear hgo
                have HNF : Hid (NoFull ls rb at_ (s + 1)) := Lib.hid fun t ht hn0 hf => by
                  by_cases e : t = s
                  · subst e
                    rw [HN.out]
                    first | omega | (rw [HFT.out] at hf; cases hf)
                  · exact HNO.out t (by omega) hn0 hf
                obtain ⟨pb, hpb⟩ : ∃ pb, pb = anyFt ls rb at_ s := ⟨_, rfl⟩
                have HST : Hid (anyFt ls rb at_ (s + 1) = (pb || false)) := Lib.hid (by rw [anyFt_step, HFT.out, ← hpb, decide_eq_true (show ln ls s ≠ 0 by rw [HN.out]; omega)]; simp)
                rw [← hpb]
                clear hpb
                cases pb
                all_goals
                  go_wp2
                  go_roundw
                  case rel => exact ⟨s + 1, _, by omega, by go_num, by rw [HST.out]; rfl, HNF.out, rfl⟩
                  case measure => simp [intOf]; omega
              · have hal' : decide ((at_ : Int) + k < rb.length) = false := by simp; omega
                have hal2 : ¬ (at_ : Int) + k < rb.length := by omega
                clear hgo
                cases fb
                · have HFT : Hid (Ft ls rb at_ s = false) := Lib.hid (Ft_no HN.out (by omega) hak HFB.out.symm)
                  have HNF : Hid (NoFull ls rb at_ (s + 1)) := Lib.hid fun t ht hn0 hf => by
                    by_cases e : t = s
                    · subst e
                      rw [HN.out]
                      first | omega | (rw [HFT.out] at hf; cases hf)
                    · exact HNO.out t (by omega) hn0 hf
                  obtain ⟨pb, hpb⟩ : ∃ pb, pb = anyFt ls rb at_ s := ⟨_, rfl⟩
                  have HST : Hid (anyFt ls rb at_ (s + 1) = (pb || false)) := Lib.hid (by rw [anyFt_step, HFT.out, ← hpb, decide_eq_true (show ln ls s ≠ 0 by rw [HN.out]; omega)]; simp)
                  rw [← hpb]
                  clear hpb
                  cases pb
                  all_goals
                    go_wp2
                    go_roundw
                    case rel => exact ⟨s + 1, _, by omega, by go_num, by rw [HST.out]; rfl, HNF.out, rfl⟩
                    case measure => simp [intOf]; omega
                · have HFT : Hid (Ft ls rb at_ s = true) := Lib.hid (Ft_of HN.out (by omega) HFB.out.symm)
                  have HNF : Hid (NoFull ls rb at_ (s + 1)) := Lib.hid fun t ht hn0 hf => by
                    by_cases e : t = s
                    · subst e
                      rw [HN.out]
                      first | omega | (rw [HFT.out] at hf; cases hf)
                    · exact HNO.out t (by omega) hn0 hf
                  obtain ⟨pb, hpb⟩ : ∃ pb, pb = anyFt ls rb at_ s := ⟨_, rfl⟩
                  have HST : Hid (anyFt ls rb at_ (s + 1) = (pb || true)) := Lib.hid (by rw [anyFt_step, HFT.out, ← hpb, decide_eq_true (show ln ls s ≠ 0 by rw [HN.out]; omega)]; simp)
                  rw [← hpb]
                  clear hpb
                  cases pb
                  all_goals
                    go_wp2
                    go_roundw
                    case rel => exact ⟨s + 1, _, by omega, by go_num, by rw [HST.out]; rfl, HNF.out, rfl⟩
                    case measure => simp [intOf]; omega
            · have hkn' : decide ((k : Int) < n) = false := by simp; omega
              have hkn2 : decide (k < n) = false := by simp; omega
              have hke : k = n := by omega
              subst hke
              have hkk : ((k : Int) == k) = true := by simp
              clear hgo
              cases fb
              · have HFT : Hid (Ft ls rb at_ s = false) := Lib.hid (Ft_no HN.out (by omega) hak HFB.out.symm)
                have HNF : Hid (NoFull ls rb at_ (s + 1)) := Lib.hid fun t ht hn0 hf => by
                  by_cases e : t = s
                  · subst e
                    rw [HN.out]
                    first | omega | (rw [HFT.out] at hf; cases hf)
                  · exact HNO.out t (by omega) hn0 hf
                obtain ⟨pb, hpb⟩ : ∃ pb, pb = anyFt ls rb at_ s := ⟨_, rfl⟩
                have HST : Hid (anyFt ls rb at_ (s + 1) = (pb || false)) := Lib.hid (by rw [anyFt_step, HFT.out, ← hpb, decide_eq_true (show ln ls s ≠ 0 by rw [HN.out]; omega)]; simp)
                rw [← hpb]
                clear hpb
                cases pb
                all_goals
                  go_wp2
                  go_roundw
                  case rel => exact ⟨s + 1, _, by omega, by go_num, by rw [HST.out]; rfl, HNF.out, rfl⟩
                  case measure => simp [intOf]; omega
              · have HFT : Hid (Ft ls rb at_ s = true) := Lib.hid (Ft_of HN.out (by omega) HFB.out.symm)
                go_wp2
                go_ret3
                exact ⟨.inl ⟨s, k, HN.out, by omega, HFT.out, hak, rfl⟩, _, rfl⟩
    · have hs' : s = ls.length := by omega
      subst hs'
      obtain ⟨pb, hpb⟩ : ∃ pb, pb = anyFt ls rb at_ ls.length := ⟨_, rfl⟩
      have HPB := Lib.hid hpb.symm
      rw [← hpb]
      clear hpb
      cases pb
      · by_cases hend : rb.length ≤ at_
        · have hend' : (rb.length : Int) ≤ at_ := by omega
          go_wp2
          go_ret3
          exact ⟨.inr (.inl ⟨HNO.out, .inr hend, rfl⟩), _, rfl⟩
        · have hend' : decide ((rb.length : Int) ≤ at_) = false := by simp; omega
          have hend2 : decide (rb.length ≤ at_) = false := by simp; omega
          go_wp2
          go_ret3
          exact ⟨.inr (.inr ⟨HPB.out, by omega, rfl⟩), _, rfl⟩
      · go_wp2
        go_ret3
        exact ⟨.inr (.inl ⟨HNO.out, .inl HPB.out, rfl⟩), _, rfl⟩
end Go.Proofs.Ythgehgdbplbcfaa
