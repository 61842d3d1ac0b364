import Derived.Test.YtnnkegpnjedneaaDoorX8
import Derived.Defers
import Derived.Recover
import Derived.Lib.SlBytesConst
import Derived.Test.YtnnkegpnjedneaaDoorCards
import Derived.Test.YtnnkegpnjedneaaDoorTie
import Derived.ProofKit
import Derived.OpenShut
import Derived.ShutString
import Derived.ChangeOld
import Derived.SizedLaws
import Derived.LaidMore
import Derived.Lay
import Derived.SevenTiedAt
import Derived.Stop.Joined
import Derived.Lib.LaidTab
/-
  block of inflate's reader; the deferred closure.
-/
namespace Go.Proofs.YtnnkegpnjedneaaDoor
open Go.RowKit
set_option maxRecDepth 100000

section
variable {B K p pb : Nat} {g : Option Nat} {bs : List Nat} {lim : Nat} {w : World} {ov : Value} {s : Sta}
/-- What the reading of a block leaves. -/
def BT (B p pb : Nat) (g : Option Nat) (bs : List Nat) (lim : Nat) (w : World) (ov : Value) (r : Res Unit) (e : Ending) (w' : World) : Prop :=
  match r with
  | .bad er => RBad p pb w ov er e w'
  | .ok _ s => e = .returned (.tuple #[]) ∧ ∃ K' ov', K' ≤ w'.heap.size ∧ RS B K' p pb g bs lim w' ov' s ∧ Mv p pb w ov w' ov'
theorem BT.bad {R : Res Unit} {er : Nat} {w' : World} (e : R = .bad er) (ht : Touch (FT p pb ov) w w') : BT B p pb g bs lim w ov R (pan er) w' := by
  subst e; exact ⟨rfl, ht⟩
/-- Behind the last call of a block. -/
theorem BT.of {R : Res Unit} {w1 w' : World} {ov1 : Value} {e : Ending} (hK : K ≤ w1.heap.size) (m : Mv p pb w ov w1 ov1) (h : RTo B K p pb g bs lim w1 ov1 uv R e w') : (∃ er, e = pan er ∧ BT B p pb g bs lim w ov R (pan er) w') ∨ (e = .returned (.tuple #[]) ∧ BT B p pb g bs lim w ov R (.returned (.tuple #[])) w') := by
  cases R with
  | bad er =>
    obtain ⟨rfl, ht⟩ := h
    exact .inl ⟨er, rfl, rfl, m.bad ht⟩
  | ok u s1 =>
    obtain ⟨rfl, ov2, h2, m2⟩ := h
    exact .inr ⟨rfl, rfl, K, ov2, Nat.le_trans hK m2.touch.size, h2, m.trans m2⟩

set_option maxHeartbeats 3200000 in
theorem block_any (hK : K ≤ w.heap.size) (hB : 0 < B) (hT : Tab w) (h : RS B K p pb g bs lim w ov s) :
    Calls Tryd.prog 53 #[.pointer (some ⟨p, 0, none⟩)] w (BT B p pb g bs lim w ov (blk bs lim s)) := by
  obtain ⟨R, hR⟩ : ∃ R, R = blk bs lim s := ⟨_, rfl⟩
  rw [← hR]
  unfold blk at hR
  have HR := Lib.hid hR
  have H := Lib.hid h
  have HT := Lib.hid hT
  have HB := Lib.hid hB
  have HK := Lib.hid hK
  clear hR h hT hB hK
  go_enter Tryd.func53, Tryd.ntmps53
  go_wp2_with fail
  refine (number_any H.out 2 (by omega)).mono ?_
  rintro e w1 h1
  have hR := HR.out
  cases hr1 : rdN bs 2 s with
  | bad er =>
    rw [hr1] at h1 hR
    obtain ⟨rfl, ht⟩ := h1
    have HR1 := Lib.hid hR
    clear hr1 hR
    go_wp2
    exact ⟨rfl, BT.bad HR1.out ht⟩
  | ok k s1 =>
  rw [hr1] at h1
  rw [hr1, Res.bind_ok] at hR
  obtain ⟨rfl, ov1, h1, m1⟩ := h1
  have hk4 : k < 4 := rdN_lt hr1
  have HR1 := Lib.hid hR
  have H1 := Lib.hid h1
  have M1 := Lib.hid m1
  have HK1 := Lib.hid (Nat.le_trans HK.out m1.touch.size)
  have HT1 : Hid (Tab w1) := Lib.hid (HT.out.touch m1.touch fun h0 => by have := H.out.base 0 h0; have := HB.out; omega)
  clear hr1 hR h1 m1 HR
  rcases (by omega : k = 0 ∨ k = 1 ∨ k = 2 ∨ k = 3) with rfl | rfl | rfl | rfl
  · have hR := HR1.out
    rw [if_pos rfl] at hR
    have HR2 := Lib.hid hR
    clear hR
    go_wp2_with fail
    refine (stored_any H1.out).mono ?_
    rintro e w2 h2
    rw [← HR2.out] at h2
    rcases BT.of HK1.out M1.out h2 with ⟨er, rfl, h3⟩ | ⟨rfl, h3⟩
    · have H3 := Lib.hid h3
      clear h2 h3
      go_wp2
      exact ⟨rfl, H3.out⟩
    · have H3 := Lib.hid h3
      clear h2 h3
      go_wp2
      go_end0
      exact H3.out
  · have hR := HR1.out
    rw [if_neg (by decide), if_pos rfl] at hR
    have HR2 := Lib.hid hR
    clear hR
    go_wp2_with fail
    refine (fixedCodes_any H1.out HK1.out).mono ?_
    rintro e w2 ⟨p1, p2, rfl, hc1, hc2, ⟨K2, hK2, h2⟩, m2⟩
    have HC1 := Lib.hid hc1
    have HC2 := Lib.hid hc2
    have H2 := Lib.hid h2
    have M2 := Lib.hid (M1.out.trans m2)
    have HK2 := Lib.hid hK2
    clear hc1 hc2 h2 m2 hK2
    go_wp2_with fail
    refine (symbols_any H2.out HC1.out HC2.out).mono ?_
    rintro e w3 h3
    rw [← HR2.out] at h3
    rcases BT.of HK2.out M2.out h3 with ⟨er, rfl, h4⟩ | ⟨rfl, h4⟩
    · have H3 := Lib.hid h4
      clear h3 h4
      go_wp2
      exact ⟨rfl, H3.out⟩
    · have H3 := Lib.hid h4
      clear h3 h4
      go_wp2
      go_end0
      exact H3.out
  · have hR := HR1.out
    rw [if_neg (by decide), if_neg (by decide), if_pos rfl] at hR
    have HR2 := Lib.hid hR
    clear hR
    go_wp2_with fail
    refine (toldCodes_any HK1.out HB.out HT1.out H1.out).mono ?_
    rintro e w2 h2
    have hR := HR2.out
    cases hr2 : codes bs s1 with
    | bad er =>
      rw [hr2] at h2 hR
      obtain ⟨rfl, ht⟩ := h2
      have HR3 := Lib.hid hR
      clear hr2 hR
      go_wp2
      exact ⟨rfl, BT.bad HR3.out (M1.out.bad ht)⟩
    | ok c s2 =>
    rw [hr2] at h2
    rw [hr2, Res.bind_ok] at hR
    obtain ⟨p1, p2, rfl, hc1, hc2, ov2, h2, m2⟩ := h2
    have HR3 := Lib.hid hR
    have HC1 := Lib.hid hc1
    have HC2 := Lib.hid hc2
    have H2 := Lib.hid h2
    have M2 := Lib.hid (M1.out.trans m2)
    have HK2 := Lib.hid (Nat.le_trans HK1.out m2.touch.size)
    clear hr2 hR hc1 hc2 h2 m2
    go_wp2_with fail
    refine (symbols_any H2.out HC1.out HC2.out).mono ?_
    rintro e w3 h3
    rw [← HR3.out] at h3
    rcases BT.of HK2.out M2.out h3 with ⟨er, rfl, h4⟩ | ⟨rfl, h4⟩
    · have H3 := Lib.hid h4
      clear h3 h4
      go_wp2
      exact ⟨rfl, H3.out⟩
    · have H3 := Lib.hid h4
      clear h3 h4
      go_wp2
      go_end0
      exact H3.out
  · have hR := HR1.out
    rw [if_neg (by decide), if_neg (by decide), if_neg (by decide)] at hR
    have HR2 := Lib.hid hR
    clear hR
    go_wp2
    exact ⟨rfl, BT.bad (er := 10) HR2.out M1.out.touch⟩
end

theorem catch_panicking (q : Nat) (er : Nat) (w : World) (x : Int) (hc : w.cell? ⟨q, 0, none⟩ = some (.int .i64 x)) (hz : w.frozen? ⟨q, 0, none⟩ = false) :
    CallsD Tryd.prog 51 #[.pointer (some ⟨q, 0, none⟩)] (.panicking [{ v := .iface 97 (.int .i64 (er : Nat)), recovered := false }]) w fun e u' w' =>
      e = .returned (.tuple #[]) ∧ u' = .panicking [{ v := .iface 97 (.int .i64 (er : Nat)), recovered := true }] ∧ w' = w.setCell ⟨q, 0, none⟩ (.int .i64 (er : Nat)) := by
  refine callsD_of_wpS Tryd.func51 rfl fun c₀ cs hu => ?_
  apply wpS_seq
  apply wpS_region
  simp [wpOpsS, go_sem, recoverD, hu, Tryd.ntmps51, Exit.thenS]
  refine wpS_of_wp ?_
  have hta : ∀ W : World, (Instr.typeAssert (.iface 97 (.int .i64 (er : Nat))) 20 97 true).run Tryd.prog W = .ok (.tuple #[.int .i64 (er : Nat), .bool true]) W := fun _ => by
    kernel_rfl
  simp only [Array.replicate, List.replicate, List.setIfInBounds_toArray, List.append_toArray]
  go_wp2
  simp [bodyPostS, results, Tryd.results51]

theorem catch_idle (q : Nat) (w : World) :
    CallsD Tryd.prog 51 #[.pointer (some ⟨q, 0, none⟩)] .returning w fun e u' w' =>
      e = .returned (.tuple #[]) ∧ u' = .returning ∧ w' = w := by
  refine callsD_of_wpS Tryd.func51 rfl fun c₀ cs hu => ?_
  apply wpS_seq
  apply wpS_region
  simp [wpOpsS, go_sem, recoverD, hu, Tryd.ntmps51, Exit.thenS]
  refine wpS_of_wp ?_
  have hta : ∀ W : World, (Instr.typeAssert .nilIface 20 97 true).run Tryd.prog W = .ok (.tuple #[.int .i64 0, .bool false]) W := fun _ => by
    kernel_rfl
  simp only [Array.replicate, List.replicate, List.setIfInBounds_toArray, List.append_toArray]
  go_wp2
  simp [bodyPostS, results, Tryd.results51]
  obtain ⟨f, t, td, df, md, kd, rd⟩ := c₀
  simp at hu
  simp [hu]
end Go.Proofs.YtnnkegpnjedneaaDoor

/-
  A fault is never 0; readAll of inflate's reader.
-/
namespace Go.Proofs.YtnnkegpnjedneaaDoor
open Go.RowKit
set_option maxRecDepth 100000

section
variable {bs : List Nat} {lim : Nat} {α β : Type}
/-- Its fault is not 0. -/
def NZ (L : Nat) (f : Sta → Res α) : Prop := ∀ s er, s.at_ ≤ L → f s = .bad er → er ≠ 0
theorem NZ.bind {L : Nat} {f : Sta → Res α} {k : α → Sta → Res β} (h : NZ L f) (hp : Pr L 0 f) (hk : ∀ a, NZ L (k a)) : NZ L fun s => (f s).bind k := by
  intro s er hs hb
  cases hr : f s with
  | bad e =>
    simp only [hr, Res.bind_bad, Res.bad.injEq] at hb
    subst hb
    exact h s e hs hr
  | ok a s1 =>
    simp only [hr, Res.bind_ok] at hb
    exact hk a s1 er (hp s a s1 hs hr).end_ hb
theorem NZ.run {L : Nat} {f : α → Sta → Res (Bool × α)} (hf : Takes L f) (h : ∀ a, NZ L (f a)) (a : α) : NZ L (YtnnkegpnjedneaaDoor.run L f a) := by
  have key : ∀ n s a er, L - s.at_ ≤ n → s.at_ ≤ L → YtnnkegpnjedneaaDoor.run L f a s = .bad er → er ≠ 0 := by
    intro n
    induction n with
    | zero =>
      intro s a er hn hs hr
      rw [run_eq hf a hs] at hr
      cases hx : f a s with
      | bad e =>
        simp only [hx, Res.bind_bad, Res.bad.injEq] at hr
        subst hr
        exact h a s e hs hx
      | ok x s' => have := hf a s x s' hs hx; omega
    | succ n ih =>
      intro s a er hn hs hr
      rw [run_eq hf a hs] at hr
      cases hx : f a s with
      | bad e =>
        simp only [hx, Res.bind_bad, Res.bad.injEq] at hr
        subst hr
        exact h a s e hs hx
      | ok x s' =>
        have h3 := hf a s x s' hs hx
        simp only [hx, Res.bind_ok] at hr
        split at hr
        · cases hr
        · exact ih s' x.2 er (by omega) h3.2 hr
  intro s er hs hr
  exact key _ s a er (Nat.le_refl _) hs hr
theorem rdN_nz {L : Nat} (n : Nat) : NZ L (rdN bs n) := by
  intro s er _ h
  unfold rdN at h
  split at h <;> cases h
  decide
theorem rdS_nz {L : Nat} (ls : List Nat) : NZ L (rdS bs ls) := by
  intro s er _ h
  unfold rdS at h
  split at h
  · cases h; decide
  · split at h
    · cases h; decide
    · split at h <;> cases h
      decide
theorem grown_nz (o : Option (Nat × Nat)) : NZ (8 * bs.length) (grown bs o) := by
  cases o with
  | none => intro s er _ h; cases h; decide
  | some x => exact (rdN_nz x.2).bind (rdN_pr _) fun v s er _ h => by cases h
theorem again_nz (ol : List Nat) (y : Nat) : NZ (8 * bs.length) (again bs lim ol y) := by
  refine (grown_nz _).bind (grown_pr _) fun n => ?_
  refine (rdS_nz _).bind (rdS_pr _) fun d => ?_
  refine (grown_nz _).bind (grown_pr _) fun far s er _ h => ?_
  split at h
  · cases h; decide
  · split at h <;> cases h
    decide
theorem sym1_nz (fl ol : List Nat) (u : Unit) : NZ (8 * bs.length) (sym1 bs lim fl ol u) := by
  refine (rdS_nz _).bind (rdS_pr _) fun y s er hs h => ?_
  split at h
  · split at h <;> cases h
    decide
  · split at h
    · cases h
    · cases hr : again bs lim ol y { s with steps := s.steps + 1 } with
      | bad e =>
        simp only [hr, Res.bind_bad, Res.bad.injEq] at h
        subst h
        exact again_nz ol y { s with steps := s.steps + 1 } e hs hr
      | ok u s2 => simp only [hr, Res.bind_ok] at h; cases h
theorem syms_nz (fl ol : List Nat) : NZ (8 * bs.length) (syms bs lim fl ol) := NZ.run (sym1_takes fl ol) (sym1_nz fl ol) ()
theorem stored_nz : NZ (8 * bs.length) (stored bs lim) := by
  intro s er hs h
  have hk := ((rdN_nz (bs := bs) (L := 8 * bs.length) 16).bind (rdN_pr (lim := 0) 16) (k := fun n s1 => (rdN bs 16 s1).bind fun m s2 =>
    if m ≠ 65535 - n then .bad 10 else if 8 * bs.length < s2.at_ + 8 * n then .bad 15 else if lim < s2.out.length + n then .bad 14
    else .ok () { s2 with at_ := s2.at_ + 8 * n, out := s2.out ++ (bs.drop (s2.at_ / 8)).take n, steps := s2.steps + n }) fun n => by
      refine (rdN_nz 16).bind (rdN_pr 16) fun m s2 er _ h => ?_
      split at h
      · cases h; decide
      · split at h
        · cases h; decide
        · split at h <;> cases h
          decide)
  exact hk { s with at_ := up8 s.at_ } er (up8_end hs) h
theorem itm_nz (own : List Nat) : NZ (8 * bs.length) (itm bs own) := by
  refine (rdS_nz _).bind (rdS_pr _) fun y => ?_
  intro s er hs h
  split at h
  · exact ((rdN_nz (xb y)).bind (rdN_pr _) (k := fun v s2 => .ok (y, v) s2) fun v s er _ h => by cases h) s er hs h
  · cases h
theorem len1_nz (own : List Nat) (n : Nat) (row : List Nat) : NZ (8 * bs.length) (len1 bs own n row) := by
  refine (itm_nz own).bind (fun s a t hs h => (itm_le own hs h).2) fun x s er hs h => ?_
  split at h
  · cases h; decide
  · split at h <;> cases h
    decide
theorem lens_nz (own : List Nat) (n : Nat) : NZ (8 * bs.length) (lens bs own n) := NZ.run (len1_takes own n) (len1_nz own n) []
theorem rdO_nz (k : Nat) : ∀ l, NZ (8 * bs.length) (rdO bs k l) := by
  induction k with
  | zero => intro l s er _ h; cases h
  | succ k ih => intro l; exact (rdN_nz 3).bind (rdN_pr 3) fun v => ih _
theorem codes_nz : NZ (8 * bs.length) (codes bs) := by
  refine (rdN_nz 5).bind (rdN_pr 5) fun l => ?_
  refine (rdN_nz 5).bind (rdN_pr 5) fun d => ?_
  refine (rdN_nz 4).bind (rdN_pr 4) fun c s er hs h => ?_
  split at h
  · cases h; decide
  · refine ((rdO_nz (4 + c) []).bind (rdO_pr (4 + c) []) fun o s er hs h => ?_) s er hs h
    split at h
    · cases h; decide
    · refine ((lens_nz (ownOf o) (258 + l + d)).bind (lens_pr (ownOf o) (258 + l + d)) fun row s er hs h => ?_) s er hs h
      split at h
      · cases h; decide
      · split at h <;> cases h
        decide
theorem blk_nz : NZ (8 * bs.length) (blk bs lim) := by
  refine (rdN_nz 2).bind (rdN_pr 2) fun k s er hs h => ?_
  split at h
  · exact stored_nz s er hs h
  · split at h
    · exact syms_nz _ _ s er hs h
    · split at h
      · exact (codes_nz.bind codes_pr fun c => syms_nz c.1 c.2) s er hs h
      · cases h; decide
theorem blk1_nz (_hb : Bs bs) (u : Unit) : NZ (8 * bs.length) (blk1 bs lim u) := by
  refine (rdN_nz 1).bind (rdN_pr 1) fun l => ?_
  intro s er hs h
  cases hr : blk bs lim s with
  | bad e =>
    simp only [hr, Res.bind_bad, Res.bad.injEq] at h
    subst h
    exact blk_nz s e hs hr
  | ok u s2 => simp only [hr, Res.bind_ok] at h; cases h
theorem infl_nz (hb : Bs bs) {er : Nat} (h : infl bs lim = .bad er) : er ≠ 0 := NZ.run (blk1_takes hb) (blk1_nz hb) () _ er (Nat.zero_le _) h
end

section
variable {B K p pb : Nat} {g : Option Nat} {bs : List Nat} {lim : Nat} {w : World} {ov : Value} {s : Sta}
/-- What is still to be read, where the last block may have been. -/
def rest (bs : List Nat) (lim : Nat) (last : Bool) (s : Sta) : Res Unit := if last then .ok () s else run (8 * bs.length) (blk1 bs lim) () s
theorem rest_eq (hb : Bs bs) (hs : s.at_ ≤ 8 * bs.length) : rest bs lim false s = (rdN bs 1 s).bind fun l s1 => (blk bs lim s1).bind fun _ s2 => rest bs lim (decide (l = 1)) { s2 with blocks := s2.blocks + 1 } := by
  unfold rest
  rw [if_neg (by decide), run_eq (blk1_takes hb) () hs]
  unfold blk1
  cases hr : rdN bs 1 s with
  | bad e => rfl
  | ok l s1 =>
    simp only [Res.bind_ok]
    cases hr2 : blk bs lim s1 with
    | bad e => rfl
    | ok u s2 => rfl
/-- While blocks are read. -/
structure Bl (B p pb : Nat) (g : Option Nat) (bs : List Nat) (lim : Nat) (w : World) (ov : Value) (q : Nat) (R : Res Unit) (last : Bool) (wr : World) (ov' : Value) (s' : Sta) : Prop where
  rs : ∃ K, K ≤ wr.heap.size ∧ RS B K p pb g bs lim wr ov' s'
  mv : Mv p pb w ov wr ov'
  run : rest bs lim last s' = R
  tab : Tab wr
  err : Blk wr q 36 #[.int .i64 0]
/-- Between. -/
structure Bx (B p pb : Nat) (g : Option Nat) (bs : List Nat) (lim : Nat) (w : World) (ov : Value) (q : Nat) (wr : World) (ov' : Value) (s' : Sta) : Prop where
  rs : ∃ K, K ≤ wr.heap.size ∧ RS B K p pb g bs lim wr ov' s'
  mv : Mv p pb w ov wr ov'
  tab : Tab wr
  err : Blk wr q 36 #[.int .i64 0]
theorem Bx.on {q : Nat} {wr w' : World} {ov' ov2 : Value} {s' s2 : Sta} {K' : Nat} (hB : 0 < B) (h : Bx B p pb g bs lim w ov q wr ov' s') (hK : K' ≤ w'.heap.size) (k : RS B K' p pb g bs lim w' ov2 s2) (m : Mv p pb wr ov' w' ov2) :
    Bx B p pb g bs lim w ov q w' ov2 s2 := by
  obtain ⟨K0, _, h0⟩ := h.rs
  exact ⟨⟨K', hK, k⟩, h.mv.trans m, h.tab.touch m.touch fun h1 => by have := h0.base 0 h1; omega, h.err.safe m.touch h0.safe (by decide)⟩
/-- The fault's variable is another block. -/
theorem RS.err {q : Nat} {cs : Array Value} (h : RS B K p pb g bs lim w ov s) (hq : Blk w q 36 cs) (x : Value) : RS B K p pb g bs lim (w.setCell ⟨q, 0, none⟩ x) ov s := by
  have ht : Touch (fun k => k = q) w (w.setCell ⟨q, 0, none⟩ x) := (Touch.refl _ w).setCell _ _ (.inl rfl)
  have hne : ∀ k t cs', Blk w k t cs' → t ≠ 36 → k ≠ q := by
    rintro k t cs' hk h1 rfl
    rw [Blk, hq] at hk
    simp at hk
    exact h1 hk.2.symm
  obtain ⟨fx, hb, hf⟩ := h.blk
  obtain ⟨sv, ho, hg, hs⟩ := h.ob.blk
  refine ⟨⟨fx, hb.touch ht (hne _ _ _ hb (by decide)), ?_⟩, h.ob.touch ht fun k hk => ?_, ownsRow_touch h.own ht fun i hi => ?_, h.hp, h.row, h.len, h.lim_, h.in_, h.out, h.steps, h.blocks, h.bytes⟩
  · rcases hf with hf | ⟨q', p1, p2, hv, h1, h2, h3, h4⟩
    · exact .inl hf
    · exact .inr ⟨q', p1, p2, hv, h1.touch ht (hne _ _ _ h1 (by decide)), h2.aside hq ht ⟨by decide, by decide, fun h => by cases h⟩, h3.aside hq ht ⟨by decide, by decide, fun h => by cases h⟩, h4⟩
  · rcases hk with rfl | hk
    · exact hne _ _ _ ho (by decide)
    · rw [← hg] at hk
      obtain ⟨cs', hc⟩ := own_ty hs hk
      exact hne _ _ _ hc (by decide)
  · obtain ⟨cs', hc⟩ := own_ty h.own hi
    exact hne _ _ _ hc (by decide)
/-- What the reading of all leaves. -/
def RA (B p pb : Nat) (g : Option Nat) (bs : List Nat) (lim : Nat) (w : World) (ov : Value) (r : Res Unit) (e : Ending) (w' : World) : Prop :=
  match r with
  | .bad er => e = .returned (.int .i64 (er : Nat)) ∧ Touch (FT p pb ov) w w'
  | .ok _ s => e = .returned (.int .i64 0) ∧ ∃ K' ov', K' ≤ w'.heap.size ∧ RS B K' p pb g bs lim w' ov' s ∧ Mv p pb w ov w' ov'

theorem RA.fail {q : Nat} {w' : World} {R : Res Unit} {er : Nat} {tm : Array Value} (hq : w.heap.size ≤ q) (he : Blk w' q 36 #[.int .i64 0]) (ht : Touch (FT p pb ov) w w') (hR : Res.bad er = R) (h2 : tm[2]? = some (.pointer (some ⟨q, 0, none⟩))) :
    Leaves Tryd.prog Tryd.f32 tm (RA B p pb g bs lim w ov R) [{ target := .fn (.func 51) #[.pointer (some ⟨q, 0, none⟩)], args := #[] }] (.panicking [{ v := .iface 97 (.int .i64 (er : Nat)), recovered := false }]) w' := by
  have e0 := (he.cell 0).trans (show _ = some (.int .i64 0) from rfl)
  have f0 := he.free 0
  refine leaves_cons (f := 51) (args := #[.pointer (some ⟨q, 0, none⟩)]) (by simp) (by simp [go_sem]) ?_
  refine (catch_panicking q er _ 0 e0 f0).mono ?_
  rintro e u' w'' ⟨rfl, rfl, rfl⟩
  have hc : (w'.setCell ⟨q, 0, none⟩ (.int .i64 (er : Nat))).cell? ⟨q, 0, none⟩ = some (.int .i64 (er : Nat)) := World.cell?_setCell_same _ _ _ e0
  subst hR
  simp [Leaves, settle, results, Tryd.results32, go_sem, hc, h2]
  exact ⟨rfl, ht.setCell _ _ (.inr hq)⟩

set_option maxHeartbeats 3200000 in
theorem readAll_any (hK : K ≤ w.heap.size) (hB : 0 < B) (hT : Tab w) (hb : Bs bs) (h : RS B K p pb g bs lim w ov s) :
    Calls Tryd.prog 32 #[.pointer (some ⟨p, 0, none⟩)] w (RA B p pb g bs lim w ov (run (8 * bs.length) (blk1 bs lim) () s)) := by
  obtain ⟨R, hR⟩ : ∃ R, rest bs lim false s = R := ⟨_, rfl⟩
  rw [show run (8 * bs.length) (blk1 bs lim) () s = R from hR]
  have hmf : ∀ (fn : Fn) (first cap : Array Value) (w : World), (Instr.makeFunc fn first cap).run Tryd.prog w = .ok (.func fn first cap) w := fun _ _ _ _ => rfl
  obtain ⟨q, hq⟩ : ∃ q, q = w.heap.size := ⟨_, rfl⟩
  have hin := h.in_
  obtain ⟨h0, m0⟩ := h.grow ((Below.refl _ w).alloc (Nat.le_refl _) (.cells #[.int .i64 0] 36))
  have hB0 : Blk (w.alloc (.cells #[.int .i64 0] 36)) q 36 #[.int .i64 0] := by rw [hq]; exact heap_alloc_new w _
  have X0 := Lib.hid (show Bx B p pb g bs lim w ov q (w.alloc (.cells #[.int .i64 0] 36)) ov s from ⟨⟨K, Nat.le_trans hK m0.touch.size, h0⟩, m0, hT.touch m0.touch fun h1 => by have := h.base 0 h1; omega, hB0⟩)
  have HR := Lib.hid hR
  have HB := Lib.hid hB
  have HBs := Lib.hid hb
  clear h0 m0 hB0 hR hT hb h hK hB
  go_enter_defers Tryd.func32, Tryd.ntmps32
  go_wp2
  rw [← hq] at ⊢
  have hq2 : w.heap.size ≤ q := by omega
  clear hq
  go_loopg [3] (8 * bs.length + 1) (fun gm v wr => ∃ (last : Bool) (ov' : Value) (s' : Sta), 8 * bs.length + 1 - s'.at_ ≤ gm ∧ v = .bool last ∧ Hid (rest bs lim last s' = R) ∧ Bx B p pb g bs lim w ov q wr ov' s')
  case atStart => exact ⟨false, ov, s, by omega, rfl, HR, X0.out⟩
  case round =>
    clear X0 HR
    obtain ⟨last, ov1, s1, hgm, rfl, HR, hx⟩ := hrel
    have HX := Lib.hid hx
    have e0 := (hx.err.cell 0).trans (show _ = some (.int .i64 0) from rfl)
    have f0 := hx.err.free 0
    cases last with
    | true =>
      have hR := HR.out
      have HR1 := Lib.hid (show Res.ok () s1 = R from hR)
      clear hR HR hx
      go_wp2
      obtain ⟨K1, hk1, hx1⟩ := HX.out.rs
      refine leaves_cons (f := 51) (args := #[.pointer (some ⟨q, 0, none⟩)]) (by simp) (by simp [go_sem]) ?_
      refine (catch_idle q _).mono ?_
      rintro e u' w'' ⟨rfl, rfl, rfl⟩
      have hc : (wr.setCell ⟨q, 0, none⟩ (.int .i64 0)).cell? ⟨q, 0, none⟩ = some (.int .i64 0) := World.cell?_setCell_same _ _ _ e0
      simp only [Leaves, settle, results, Tryd.results32, go_sem]
      rw [← HR1.out]
      simp [hc]
      exact ⟨rfl, K1, ov1, by simpa using hk1, hx1.err HX.out.err _, HX.out.mv.touch.setCell _ _ (.inr hq2), HX.out.mv.row⟩
    | false =>
      obtain ⟨K1, hk1, hx1⟩ := hx.rs
      have H1 := Lib.hid hx1
      have hin1 := hx1.in_
      have hR := HR.out
      rw [rest_eq HBs.out hin1] at hR
      have HR1 := Lib.hid hR
      clear hx hx1 hR HR
      go_wp2_with fail
      refine (number_any H1.out 1 (by omega)).mono ?_
      rintro e w2 h2
      have hR := HR1.out
      cases hr1 : rdN bs 1 s1 with
      | bad er =>
        rw [hr1] at h2 hR
        obtain ⟨rfl, ht⟩ := h2
        have HR2 := Lib.hid (show Res.bad er = R from hR)
        have HT := Lib.hid (HX.out.mv.bad ht)
        have HE := Lib.hid (HX.out.err.safe ht H1.out.safe (by decide))
        clear hr1 hR ht e0 f0
        go_wp2
        exact RA.fail hq2 HE.out HT.out HR2.out rfl
      | ok k s2 =>
        rw [hr1] at h2
        rw [hr1, Res.bind_ok] at hR
        obtain ⟨rfl, ov2, h2, m2⟩ := h2
        have hk2 : k < 2 := rdN_lt hr1
        have hin2 := rdN_is hr1
        have hs2 := hin2.2.2
        have hat2 : s2.at_ = s1.at_ + 1 := by rw [hs2]
        have hbk2 : s2.blocks = s1.blocks := by rw [hs2]
        have hbk1 := H1.out.blocks
        have HR2 := Lib.hid hR
        have HK2 := Lib.hid (Nat.le_trans hk1 m2.touch.size)
        have X2 := Lib.hid (HX.out.on HB.out HK2.out h2 m2)
        have H2 := Lib.hid h2
        clear hr1 hR e0 f0 HX H1 hk1 hin2 hs2 h2 m2
        go_wp2_with fail
        refine (block_any HK2.out HB.out X2.out.tab H2.out).mono ?_
        rintro e w3 h3
        have hR := HR2.out
        cases hr2 : blk bs lim s2 with
        | bad er =>
          rw [hr2] at h3 hR
          obtain ⟨rfl, ht⟩ := h3
          have HR3 := Lib.hid (show Res.bad er = R from hR)
          have HT := Lib.hid (X2.out.mv.bad ht)
          have HE := Lib.hid (X2.out.err.safe ht H2.out.safe (by decide))
          clear hr2 hR ht
          go_wp2
          exact RA.fail hq2 HE.out HT.out HR3.out rfl
        | ok u s3 =>
          rw [hr2] at h3 hR
          obtain ⟨rfl, K3, ov3, hk3, h3, m3⟩ := h3
          have hp3 := blk_pr HBs.out _ _ _ H2.out.in_ hr2
          have X3 := Lib.hid (X2.out.on HB.out hk3 h3 m3)
          have c4 := h3.cells.c4
          have f4 := h3.cells.f4
          have hbk : s3.blocks + 1 ≤ s3.at_ := by have := hp3.blocks; omega
          have hln := h3.len
          have hi3 := h3.in_
          obtain ⟨h4, m4⟩ := h3.setBlocks (s3.blocks + 1) hbk (x := (s3.blocks : Int) + 1) (by simp)
          have X4 := Lib.hid (X3.out.on HB.out (Nat.le_trans hk3 m4.touch.size) h4 m4)
          have HR3 := Lib.hid hR
          have hat3 := hp3.at_
          clear hr2 hR h3 m3 h4 m4 X2 X3 HR2 H2 hp3 hk3
          go_wp2
          go_roundg (8 * bs.length + 1 - s3.at_)
          case measure => omega
          case rel =>
            refine ⟨decide (k = 1), ov3, { s3 with blocks := s3.blocks + 1 }, Nat.le_refl _, ?_, HR3, X4.out⟩
            rcases (by omega : k = 0 ∨ k = 1) with rfl | rfl <;> rfl
end
end Go.Proofs.YtnnkegpnjedneaaDoor

/-
  Inflate.
-/
namespace Go.Proofs.YtnnkegpnjedneaaDoor
open Go.RowKit
set_option maxRecDepth 100000

theorem res21 {t : Array Value} {W : World} {q : Nat} {x0 x1 x2 x3 er : Value} (h4 : t[4]? = some (.pointer (some ⟨q, 0, none⟩))) (h5 : t[5]? = some er) (h : Blk W q 35 #[x0, x1, x2, x3]) :
    (results Tryd.f21 t).run Tryd.prog W = .ok (.tuple #[.agg #[x0, x1, x2, x3], er]) W := by
  have e0 := (h.cell 0).trans (show _ = some x0 from rfl)
  have e1 := (h.cell 1).trans (show _ = some x1 from rfl)
  have e2 := (h.cell 2).trans (show _ = some x2 from rfl)
  have e3 := (h.cell 3).trans (show _ = some x3 from rfl)
  simp [results, Tryd.results21, h4, h5, go_sem, e0, e1, e2, e3]
theorem far_ok {S : Nat → Prop} {w w3 w4 : World} {b : Nat} (h1 : Touch S w w3) (h2 : Touch (fun k => b ≤ k) w3 w4) (hb : b = w.heap.size) (h0 : ∀ k, ¬ S k) (x0 x1 x2 x3 : Value) :
    Below b w ((((w4.setCell ⟨b, 0, none⟩ x0).setCell ⟨b, 1, none⟩ x1).setCell ⟨b, 2, none⟩ x2).setCell ⟨b, 3, none⟩ x3) := by
  subst hb
  have h3 : Touch (fun k => w.heap.size ≤ k) w w4 := (h1.mono (fun k hk => absurd hk (h0 k))).trans h2
  exact ((((h3.setCell _ _ (.inr (Nat.le_refl _))).setCell _ _ (.inr (Nat.le_refl _))).setCell _ _ (.inr (Nat.le_refl _))).setCell _ _ (.inr (Nat.le_refl _))).below (Nat.le_refl _) fun k h => h
theorem far_drew {S : Nat → Prop} {w w3 w4 : World} {b : Nat} (h1 : Touch S w w3) (h2 : Touch (fun k => b ≤ k) w3 w4) (hb : b = w.heap.size) (h0 : ∀ k, ¬ S k) (x0 x1 x2 x3 : Value) :
    Below b w ((((w4.setCell ⟨b, 0, none⟩ x0).setCell ⟨b, 1, none⟩ x1).setCell ⟨b, 2, none⟩ x2).setCell ⟨b, 3, none⟩ x3).drew :=
  below_drew (far_ok h1 h2 hb h0 x0 x1 x2 x3)
theorem far_own {w4 : World} {b n : Nat} {ov : Value} {xs : List Value} (h : w4.ownsRow (b + 1) 5 1 ov n xs) (x0 x1 x2 x3 : Value) :
    ((((w4.setCell ⟨b, 0, none⟩ x0).setCell ⟨b, 1, none⟩ x1).setCell ⟨b, 2, none⟩ x2).setCell ⟨b, 3, none⟩ x3).drew.ownsRow b 5 1 ov n xs := by
  have h0 : Touch (fun k => k = b) w4 w4 := Touch.refl _ _
  have h1 := h0.setCell ⟨b, 0, none⟩ x0 (.inl rfl)
  have h2 := h1.setCell ⟨b, 1, none⟩ x1 (.inl rfl)
  have h3 := h2.setCell ⟨b, 2, none⟩ x2 (.inl rfl)
  have ht := h3.setCell ⟨b, 3, none⟩ x3 (.inl rfl)
  refine own_base (ownsRow_touch h ht.drew ?_) (Nat.le_succ _)
  intro i hi e
  have := (h.lt i hi).1
  omega
theorem far_blk {w4 : World} {b : Nat} {y0 y1 y2 y3 : Value} (h : Blk w4 b 35 #[y0, y1, y2, y3]) (x0 x1 x2 x3 : Value) :
    Blk ((((w4.setCell ⟨b, 0, none⟩ x0).setCell ⟨b, 1, none⟩ x1).setCell ⟨b, 2, none⟩ x2).setCell ⟨b, 3, none⟩ x3).drew b 35 #[x0, x1, x2, x3] :=
  ((((h.setCell 0 x0).setCell 1 x1).setCell 2 x2).setCell 3 x3).drewN 1
/-- What Inflate leaves. -/
def InfTo (w : World) (r : Res Unit) (e : Ending) (w' : World) : Prop :=
  Below w.heap.size w w' ∧ match r with
  | .bad er => e = .returned (.tuple #[.agg #[.slice none 0 0, .int .i64 0, .int .i64 0, .int .i64 0], .int .i64 (er : Nat)])
  | .ok _ s => ∃ ov, e = .returned (.tuple #[.agg #[ov, .int .i64 ((s.at_ + 7) / 8 : Nat), .int .i64 (s.steps : Nat), .int .i64 (s.blocks : Nat)], .int .i64 0]) ∧ w'.ownsRow w.heap.size 5 1 ov s.out.length (u8s s.out)

set_option maxHeartbeats 3200000 in
theorem Inflate_any {w : World} {v : Value} {bs : List Nat} (h : BySl w v bs) (hb : Bs bs) (hl : bs.length ≤ 100000) (limit : Int) (lim : Nat) (hlim : lim = limit.toNat) (hl2 : lim ≤ 2000000) (hT : Tab w) (hB : 0 < w.heap.size) :
    Calls Tryd.prog 21 #[v, .int .i64 limit] w (InfTo w (infl bs lim)) := by
  have hmx : max limit 0 = (lim : Int) := by omega
  have HM := Lib.hid hmx
  have HS := Lib.hid h
  have HB := Lib.hid hb
  have HT := Lib.hid hT
  have HI := Lib.hid (show infl bs lim = run (8 * bs.length) (blk1 bs lim) () st0 from rfl)
  obtain ⟨R, hR⟩ : ∃ R, infl bs lim = R := ⟨_, rfl⟩
  rw [hR]
  have HR := Lib.hid hR
  clear h hb hT hmx hlim hR
  go_enter Tryd.func21, Tryd.ntmps21
  go_wp2_with fail
  refine (newReader_any (HS.out.touch ((Touch.refl (fun _ => False) w).alloc _) (fun _ _ h => h)) HB.out (by omega)).mono ?_
  rintro e w2 ⟨pb, g, rfl, ho, ht⟩
  have hw1 : (w.alloc (.cells #[.slice none 0 0, .int .i64 0, .int .i64 0, .int .i64 0] 35)).heap.size = w.heap.size + 1 := Array.size_push _
  rw [hw1] at ho
  have hq2 : Blk w2 w.heap.size 35 #[.slice none 0 0, .int .i64 0, .int .i64 0, .int .i64 0] := (Blk.made w 35 _).touch ht (fun h => h)
  have ht2 : Touch (fun _ => False) w w2 := ((Touch.refl (fun _ => False) w).alloc _).trans ht
  have hsz : w.heap.size + 1 ≤ w2.heap.size := by rw [← hw1]; exact ht.size
  have hr3 : RS (w.heap.size + 1) 0 w2.heap.size pb g bs lim (w2.alloc (.cells (rc pb (.slice none 0 0) lim st0 (.pointer none)) 67)) (.slice none 0 0) st0 :=
    ⟨⟨_, Blk.made _ _ _, .inl rfl⟩, ho.touch ((Touch.refl (fun _ => False) w2).alloc _) (fun _ _ h => h), World.ownsRow_nil _ _ _ _, hsz, fun k hk => absurd hk (by simp [Value.ownBlock]), hl, hl2, Nat.zero_le _, Nat.zero_le _, Nat.zero_le _, Nat.zero_le _, Bs.nil⟩
  have hq3 : Blk (w2.alloc (.cells (rc pb (.slice none 0 0) lim st0 (.pointer none)) 67)) w.heap.size 35 #[.slice none 0 0, .int .i64 0, .int .i64 0, .int .i64 0] := hq2.touch ((Touch.refl (fun _ => False) w2).alloc _) (fun h => h)
  have ht3 : Touch (fun _ => False) w (w2.alloc (.cells (rc pb (.slice none 0 0) lim st0 (.pointer none)) 67)) := ht2.alloc _
  have H3 := Lib.hid hr3
  have HQ3 := Lib.hid hq3
  have HT3 := Lib.hid ht3
  have HTab := Lib.hid (HT.out.touch ht3 (fun h => h))
  clear ho ht hw1 hq2 ht2 hr3 hq3 ht3
  go_wp2_with fail
  rw [HM.out]
  refine (readAll_any (Nat.zero_le _) (by omega) HTab.out HB.out H3.out).mono ?_
  rintro e w4 h4
  rw [← HI.out, HR.out] at h4
  cases R with
  | bad er =>
    obtain ⟨rfl, ht⟩ := h4
    have her := infl_nz HB.out HR.out
    have HQ4 := Lib.hid (HQ3.out.safe ht H3.out.safe (by decide))
    have HT4 := Lib.hid ht
    have d1 : ((er : Int) != 0) = true := by simp; omega
    have e0 := (HQ4.out.cell 0).trans (show _ = some (.slice none 0 0) from rfl)
    have e1 := (HQ4.out.cell 1).trans (show _ = some (.int .i64 0) from rfl)
    have e2 := (HQ4.out.cell 2).trans (show _ = some (.int .i64 0) from rfl)
    have e3 := (HQ4.out.cell 3).trans (show _ = some (.int .i64 0) from rfl)
    have f0 := HQ4.out.free 0
    have f1 := HQ4.out.free 1
    have f2 := HQ4.out.free 2
    have f3 := HQ4.out.free 3
    clear ht her
    go_wp2
    refine bodyPost_ret (res21 rfl rfl ((((HQ4.out.setCell 0 _).setCell 1 _).setCell 2 _).setCell 3 _)) rfl ⟨?_, rfl⟩
    exact far_ok HT3.out (HT4.out.mono fun k hk => Nat.le_of_succ_le (H3.out.base k hk)) rfl (fun _ h => h) _ _ _ _
  | ok u s =>
    obtain ⟨rfl, K', ov', hk, h4, m4⟩ := h4
    obtain ⟨ao, c, rfl⟩ := h4.slice
    have HQ4 := Lib.hid (HQ3.out.safe m4.touch H3.out.safe (by decide))
    have H4 := Lib.hid h4
    have M4 := Lib.hid m4
    have hat := h4.in_
    have hln := H4.out.len
    have e0 := (HQ4.out.cell 0).trans (show _ = some (.slice none 0 0) from rfl)
    have e1 := (HQ4.out.cell 1).trans (show _ = some (.int .i64 0) from rfl)
    have e2 := (HQ4.out.cell 2).trans (show _ = some (.int .i64 0) from rfl)
    have e3 := (HQ4.out.cell 3).trans (show _ = some (.int .i64 0) from rfl)
    have f0 := HQ4.out.free 0
    have f1 := HQ4.out.free 1
    have f2 := HQ4.out.free 2
    have f3 := HQ4.out.free 3
    obtain ⟨c0, c1, c2, c3, c4, _, _, _, _⟩ := h4.cells
    clear hk h4 m4
    have hAt := Lib.hid (show Calls Tryd.prog 34 #[.pointer (some ⟨pb, 0, none⟩)] w4.drew fun e w' => e = .returned (.int .i64 (s.at_ : Nat)) ∧ w' = w4.drew from ((H4.out.ob.drewN 1).at).mono fun _ _ h => ⟨h.1, h.2.symm⟩)
    go_wp2_with fail
    go_still_tail 19, (by kernel_rfl)
    still_call hAt.out
    still_call ((inflBytesFor s.at_ w4.drew (by omega)).mono fun _ _ h => ⟨h.1, h.2.symm⟩)
    repeat still_step
    refine wpStill_nil ?_
    change wpList _ _ _ _ _ w4.drew
    go_wp2
    rw [show ((s.at_ : Int) + 7) / 8 = ((s.at_ + 7) / 8 : Nat) by simp]
    exact bodyPost_ret (res21 rfl rfl (far_blk HQ4.out _ _ _ _)) rfl ⟨far_drew HT3.out (M4.out.touch.mono fun k hk => Nat.le_of_succ_le (H3.out.base k hk)) rfl (fun _ h => h) _ _ _ _, _, rfl, far_own H4.out.own _ _ _ _⟩
end Go.Proofs.YtnnkegpnjedneaaDoor

/-
  Packed bytes that are cut off, plainly.
-/
namespace Go.Proofs.YtnnkegpnjedneaaDoor
set_option maxRecDepth 100000

section
variable {bs b' : List Nat} {lim : Nat} {α β : Type}
theorem pk_take (hb : Bs bs) {a n c : Nat} (h : a + n ≤ 8 * c) : pk (bs.take c) a n = pk bs a n := by
  unfold pk
  rw [num_take hb, pow256]
  apply Nat.eq_of_testBit_eq
  intro i
  simp only [Nat.testBit_mod_two_pow, Nat.testBit_div_two_pow]
  by_cases hi : i < n
  · simp [hi]; omega
  · simp [hi]
theorem beg_pk {ls : List Nat} (H : Ok ls) {y a : Nat} (hy : ln ls y ≠ 0) : Beg ls (ahead bs a) y ↔ pk bs a (ln ls y) = rv (ln ls y) (cd ls y) := by
  constructor
  · intro hb
    have hle := ln_le H y
    have h2 := hb.2
    unfold ahead at h2
    have h3 := rv_div (ln ls y) (15 - ln ls y) (pk bs a 15)
    rw [show ln ls y + (15 - ln ls y) = 15 by omega, h2] at h3
    rw [h3, rv_rv]
    unfold pk
    rw [Nat.mod_mod_of_dvd _ (Nat.pow_dvd_pow 2 hle)]
  · intro h
    exact beg_of H hy h

/-- Codes of which the bits never run out without a symbol. -/
def OkW (ls : List Nat) : Prop := Ok ls ∧ (room ls = 32768 ∨ ∀ y, ln ls y ≤ 1)
theorem okW_whole {ls : List Nat} (H : Ok ls) (h : whole ls = true) : OkW ls := by
  refine ⟨H, ?_⟩
  unfold whole at h
  rw [decide_eq_true_iff] at h
  rcases h with h | ⟨h1, h2⟩
  · exact .inl h
  · refine .inr fun y => ?_
    by_cases hy : ln ls y = 0
    · omega
    · obtain ⟨t, ht, he⟩ := List.getElem_of_mem h2
      have ht1 : ln ls t = 1 := by unfold ln; rw [List.getD_eq_getElem?_getD, List.getElem?_eq_getElem ht]; exact he
      have k1 := fp_lt H hy
      have k2 := fp_lt H (s := t) (by omega)
      have := fp_inj hy (by omega : ln ls t ≠ 0) (by omega)
      rw [this]; omega
theorem okW_none {ls : List Nat} (H : Ok ls) (h : many ls = 0) : OkW ls := by
  refine ⟨H, .inr fun y => ?_⟩
  by_cases hy : ln ls y = 0
  · omega
  · have := fp_lt H hy
    omega

/-- Beyond the bits. -/
def Bd (b' : List Nat) (s : Sta) : Prop := 8 * b'.length < s.at_
/-- Cut off. -/
structure Cu (b' bs : List Nat) : Prop where
  is_ : b' = bs.take b'.length
  byt : Bs bs
theorem Cu.take (hb : Bs bs) (c : Nat) : Cu (bs.take c) bs := by
  refine ⟨?_, hb⟩
  rw [List.length_take]
  by_cases h : c ≤ bs.length
  · rw [Nat.min_eq_left h]
  · rw [Nat.min_eq_right (by omega), List.take_of_length_le (Nat.le_refl _), List.take_of_length_le (by omega)]
theorem Cu.len (h : Cu b' bs) : b'.length ≤ bs.length := by
  have := congrArg List.length h.is_
  rw [List.length_take] at this
  omega
theorem Cu.pk (h : Cu b' bs) {a n : Nat} (hn : a + n ≤ 8 * b'.length) : YtnnkegpnjedneaaDoor.pk b' a n = YtnnkegpnjedneaaDoor.pk bs a n := by
  rw [h.is_]
  exact pk_take h.byt (by omega)
theorem bd_le {L m : Nat} (s t : Sta) (h : Le L m s t) (hs : Bd b' s) : Bd b' t := Nat.lt_of_lt_of_le hs h.at_

theorem rdN_cut (h : Cu b' bs) (n : Nat) {s : Sta} (_hs : s.at_ ≤ 8 * b'.length) : Rl 15 (Bd b') (rdN b' n s) (rdN bs n s) := by
  have hl := h.len
  by_cases h1 : s.at_ + n ≤ 8 * b'.length
  · unfold rdN
    rw [if_pos h1, if_pos (by omega), h.pk h1]
    exact .inl rfl
  · refine .inr ⟨by unfold rdN; rw [if_neg h1], fun a t ht => ?_⟩
    obtain ⟨_, _, rfl⟩ := rdN_is ht
    show 8 * b'.length < s.at_ + n
    omega
theorem rdS_some {ls : List Nat} {s : Sta} {y : Nat} (h0 : ¬ s.at_ = 8 * bs.length) (h : findB ls (ahead bs s.at_) = some y) : rdS bs ls s = if s.at_ + ln ls y ≤ 8 * bs.length then .ok y { s with at_ := s.at_ + ln ls y } else .bad 15 := by
  unfold rdS; rw [if_neg h0, h]
theorem rdS_none {ls : List Nat} {s : Sta} (h0 : ¬ s.at_ = 8 * bs.length) (h : findB ls (ahead bs s.at_) = none) : rdS bs ls s = .bad 10 := by
  unfold rdS; rw [if_neg h0, h]
theorem rdS_cut (h : Cu b' bs) {ls : List Nat} (H : OkW ls) {s : Sta} (hs : s.at_ ≤ 8 * b'.length) : Rl 15 (Bd b') (rdS b' ls s) (rdS bs ls s) := by
  have hl := h.len
  by_cases h0 : s.at_ = 8 * b'.length
  · refine .inr ⟨by unfold rdS; rw [if_pos h0], fun a t ht => ?_⟩
    obtain ⟨_, k1, _, rfl⟩ := rdS_is ht
    show 8 * b'.length < s.at_ + ln ls a
    omega
  · have hu : ∀ y, ln ls y ≠ 0 → s.at_ + ln ls y ≤ 8 * b'.length → (Beg ls (ahead b' s.at_) y ↔ Beg ls (ahead bs s.at_) y) := by
      intro y hy hle
      rw [beg_pk H.1 hy, beg_pk H.1 hy, h.pk hle]
    cases hf' : findB ls (ahead b' s.at_) with
    | some y =>
      have hb' := findB_some hf'
      rw [rdS_some h0 hf']
      by_cases hle : s.at_ + ln ls y ≤ 8 * b'.length
      · rw [if_pos hle, rdS_some (by omega) (findB_of H.1 ((hu y hb'.1 hle).1 hb')), if_pos (by omega)]
        exact .inl rfl
      · rw [if_neg hle]
        refine .inr ⟨rfl, fun a t ht => ?_⟩
        obtain ⟨k0, k1, _, rfl⟩ := rdS_is ht
        show 8 * b'.length < s.at_ + ln ls a
        apply Nat.lt_of_not_le
        intro hle2
        have := beg_one H.1 hb' ((hu a (by omega) hle2).2 k0)
        subst this
        exact hle hle2
    | none =>
      rw [rdS_none h0 hf']
      cases hf : findB ls (ahead bs s.at_) with
      | none => rw [rdS_none (by omega) hf]; exact .inl rfl
      | some y =>
        exfalso
        have hb := findB_some hf
        rcases H.2 with hr | hr
        · rcases finds_some (p := 0) H.1 (ahead_lt b' s.at_) with ⟨t, ht, _⟩ | ⟨ht, _⟩
          · exact findB_none hf' t ht
          · have := ahead_lt b' s.at_; omega
        · have h1 := hr y
          have h2 := hb.1
          exact findB_none hf' y ((hu y h2 (by omega)).2 hb)

theorem grown_cut (h : Cu b' bs) (o : Option (Nat × Nat)) {s : Sta} (hs : s.at_ ≤ 8 * b'.length) : Rl 15 (Bd b') (grown b' o s) (grown bs o s) := by
  cases o with
  | none => exact .inl rfl
  | some x =>
    refine (rdN_cut h x.2 hs).bind (fun _ _ _ _ => .inl rfl) ?_
    intro a s1 b t _ h2 h3
    cases h3
    exact h2
theorem again_cut (h : Cu b' bs) {ol : List Nat} (H : OkW ol) (y : Nat) {s : Sta} (hs : s.at_ ≤ 8 * b'.length) : Rl 15 (Bd b') (again b' lim ol y s) (again bs lim ol y s) := by
  have hl := h.len
  refine (grown_cut h _ hs).bind ?_ ?_
  · intro n s1 h1 _
    have k1 := grown_pr (lim := lim) _ _ _ _ hs h1
    refine (rdS_cut h H k1.end_).bind ?_ ?_
    · intro d s2 h2 _
      have k2 := rdS_pr (lim := lim) _ _ _ _ k1.end_ h2
      refine (grown_cut h _ k2.end_).bind (fun _ _ _ _ => .inl rfl) ?_
      intro far s3 b t _ hp h3
      split at h3
      · cases h3
      · split at h3
        · cases h3
        · cases h3; exact hp
    · intro d s2 b t h2 hp h3
      have k2 := rdS_pr (lim := lim) _ _ _ _ (Nat.le_trans k1.end_ (by omega)) h2
      obtain ⟨far, s3, h4, h5⟩ := Res.bind_is h3
      have k3 := grown_pr (lim := lim) _ _ _ _ k2.end_ h4
      have hp3 := bd_le _ _ k3 hp
      split at h5
      · cases h5
      · split at h5
        · cases h5
        · cases h5; exact hp3
  · intro n s1 b t h1 hp h3
    have k1 := grown_pr (lim := lim) _ _ _ _ (by omega) h1
    obtain ⟨d, s2, h2, h3⟩ := Res.bind_is h3
    have k2 := rdS_pr (lim := lim) _ _ _ _ k1.end_ h2
    obtain ⟨far, s3, h4, h5⟩ := Res.bind_is h3
    have k3 := grown_pr (lim := lim) _ _ _ _ k2.end_ h4
    have hp3 := bd_le _ _ (k2.trans k3) hp
    split at h5
    · cases h5
    · split at h5
      · cases h5
      · cases h5; exact hp3
theorem sym1_cut (h : Cu b' bs) {fl ol : List Nat} (H1 : OkW fl) (H2 : OkW ol) (u : Unit) (s : Sta) (hs : s.at_ ≤ 8 * b'.length) : Rl 15 (Bd b') (sym1 b' lim fl ol u s) (sym1 bs lim fl ol u s) := by
  have hl := h.len
  refine (rdS_cut h H1 hs).bind ?_ ?_
  · intro y s1 h1 _
    have k1 := rdS_pr (lim := lim) _ _ _ _ hs h1
    split
    · exact .inl rfl
    · split
      · exact .inl rfl
      · refine (again_cut h H2 y (s := { s1 with steps := s1.steps + 1 }) k1.end_).bind (fun _ _ _ _ => .inl rfl) ?_
        intro a s2 b t _ hp h2
        cases h2
        exact hp
  · intro y s1 b t h1 hp h2
    have k1 := rdS_pr (lim := lim) _ _ _ _ (by omega) h1
    split at h2
    · split at h2
      · cases h2
      · cases h2; exact hp
    · split at h2
      · cases h2; exact hp
      · obtain ⟨_, s2, h3, h4⟩ := Res.bind_is h2
        cases h4
        exact bd_le _ _ (again_pr (lim := lim) ol y { s1 with steps := s1.steps + 1 } _ _ k1.end_ h3) hp
theorem syms_cut (h : Cu b' bs) {fl ol : List Nat} (H1 : OkW fl) (H2 : OkW ol) (s : Sta) (hs : s.at_ ≤ 8 * b'.length) : Rl 15 (Bd b') (syms b' lim fl ol s) (syms bs lim fl ol s) :=
  Rl.run (lim := lim) (Nat.mul_le_mul_left 8 h.len) (sym1_takes fl ol) (sym1_takes fl ol) (sym1_pr fl ol) bd_le (fun u s hs => sym1_cut h H1 H2 u s hs) () hs
theorem drop_cut (h : Cu b' bs) {i n : Nat} (hn : i + n ≤ b'.length) : (b'.drop i).take n = (bs.drop i).take n := by
  rw [h.is_, List.drop_take, List.take_take, Nat.min_eq_left (by omega)]
theorem stored_cut (h : Cu b' bs) (s : Sta) (hs : s.at_ ≤ 8 * b'.length) : Rl 15 (Bd b') (stored b' lim s) (stored bs lim s) := by
  have hl := h.len
  have hs0 : ({ s with at_ := up8 s.at_ } : Sta).at_ ≤ 8 * b'.length := up8_end hs
  have fin : ∀ n m (s2 : Sta) b t, Bd b' s2 → (if m ≠ 65535 - n then Res.bad 10 else if 8 * bs.length < s2.at_ + 8 * n then .bad 15 else if lim < s2.out.length + n then .bad 14
      else .ok () { s2 with at_ := s2.at_ + 8 * n, out := s2.out ++ (bs.drop (s2.at_ / 8)).take n, steps := s2.steps + n }) = .ok b t → Bd b' t := by
    intro n m s2 b t hp h
    split at h
    · cases h
    · split at h
      · cases h
      · split at h
        · cases h
        · cases h
          have : 8 * b'.length < s2.at_ := hp
          show 8 * b'.length < s2.at_ + 8 * n
          omega
  refine (rdN_cut h 16 hs0).bind ?_ ?_
  · intro n s1 h1 _
    have k1 := rdN_pr (lim := lim) _ _ _ _ hs0 h1
    refine (rdN_cut h 16 k1.end_).bind ?_ ?_
    · intro m s2 h2 _
      have k2 := rdN_pr (lim := lim) _ _ _ _ k1.end_ h2
      split
      · exact .inl rfl
      · by_cases h4 : 8 * b'.length < s2.at_ + 8 * n
        · rw [if_pos h4]
          refine .inr ⟨rfl, fun a t ht => ?_⟩
          split at ht
          · cases ht
          · split at ht
            · cases ht
            · cases ht
              exact h4
        · rw [if_neg h4, if_neg (show ¬ 8 * bs.length < s2.at_ + 8 * n by omega)]
          obtain ⟨_, _, e1⟩ := rdN_is h1
          obtain ⟨_, _, e2⟩ := rdN_is h2
          have e3 : s2.at_ = up8 s.at_ + 16 + 16 := by rw [e2, e1]
          have e4 : s2.at_ % 8 = 0 := by rw [e3]; unfold up8; omega
          rw [drop_cut h (by omega)]
          exact .inl rfl
    · intro m s2 b t h2 hp h3
      exact fin _ _ _ _ _ hp h3
  · intro n s1 b t h1 hp h3
    obtain ⟨m, s2, h2, h3⟩ := Res.bind_is h3
    have k1 := rdN_pr (lim := lim) _ _ _ _ (by show up8 s.at_ ≤ _; have : up8 s.at_ ≤ 8 * b'.length := hs0; omega) h1
    exact fin _ _ _ _ _ (bd_le _ _ (rdN_pr (lim := lim) _ _ _ _ k1.end_ h2) hp) h3
theorem itm_cut (h : Cu b' bs) {own : List Nat} (H : OkW own) {s : Sta} (hs : s.at_ ≤ 8 * b'.length) : Rl 15 (Bd b') (itm b' own s) (itm bs own s) := by
  have hl := h.len
  refine (rdS_cut h H hs).bind ?_ ?_
  · intro y s1 h1 _
    have k1 := rdS_pr (lim := 0) _ _ _ _ hs h1
    split
    · refine (rdN_cut h (xb y) k1.end_).bind (fun _ _ _ _ => .inl rfl) ?_
      intro v s2 b t _ hp h3
      cases h3; exact hp
    · exact .inl rfl
  · intro y s1 b t h1 hp h2
    have k1 := rdS_pr (lim := 0) _ _ _ _ (by omega) h1
    split at h2
    · obtain ⟨v, s2, h3, h4⟩ := Res.bind_is h2
      cases h4
      exact bd_le _ _ (rdN_pr (lim := 0) _ _ _ _ k1.end_ h3) hp
    · cases h2; exact hp
theorem len1_cut (h : Cu b' bs) {own : List Nat} (H : OkW own) (n : Nat) (row : List Nat) (s : Sta) (hs : s.at_ ≤ 8 * b'.length) : Rl 15 (Bd b') (len1 b' own n row s) (len1 bs own n row s) := by
  refine (itm_cut h H hs).bind (fun _ _ _ _ => .inl rfl) ?_
  intro x s1 b t _ hp h2
  split at h2
  · cases h2
  · split at h2
    · cases h2
    · cases h2; exact hp
theorem lens_cut (h : Cu b' bs) {own : List Nat} (H : OkW own) (n : Nat) {s : Sta} (hs : s.at_ ≤ 8 * b'.length) : Rl 15 (Bd b') (lens b' own n s) (lens bs own n s) :=
  Rl.run (lim := 0) (Nat.mul_le_mul_left 8 h.len) (len1_takes own n) (len1_takes own n) (fun _ _ _ _ hs h => (len1_le own n hs h).2) bd_le (fun u s hs => len1_cut h H n u s hs) [] hs
theorem rdO_cut (h : Cu b' bs) : ∀ k l (s : Sta), s.at_ ≤ 8 * b'.length → Rl 15 (Bd b') (rdO b' k l s) (rdO bs k l s) := by
  have hl := h.len
  intro k
  induction k with
  | zero => intro l s _; exact .inl rfl
  | succ k ih =>
    intro l s hs
    refine (rdN_cut h 3 hs).bind (fun v s1 h1 _ => ih _ _ (rdN_pr (lim := 0) _ _ _ _ hs h1).end_) ?_
    intro v s1 b t h1 hp h2
    exact bd_le _ _ (rdO_pr (lim := 0) k _ _ _ _ (rdN_pr (lim := 0) _ _ _ _ (by omega) h1).end_ h2) hp
theorem own_okW {o : List Nat} (h : ∀ x ∈ o, x < 8) (hr : room (ownOf o) = 32768) : OkW (ownOf o) :=
  ⟨⟨by rw [ownOf_len]; omega, ownOf_small h, by omega⟩, .inl hr⟩
theorem fits_okW {row : List Nat} {l : Nat} (hrl : row.length ≤ 320) (h15 : ∀ x ∈ row, x ≤ 15) (h : fits row l = true) : OkW (row.take l) ∧ OkW (row.drop l) := by
  unfold fits at h
  simp only [Bool.and_eq_true, Bool.or_eq_true, decide_eq_true_eq] at h
  obtain ⟨⟨⟨h1, h2⟩, h3⟩, h4⟩ := h
  have o1 : Ok (row.take l) := ⟨by rw [List.length_take]; omega, fun x hx => h15 x (List.mem_of_mem_take hx), h1⟩
  have o2 : Ok (row.drop l) := ⟨by rw [List.length_drop]; omega, fun x hx => h15 x (List.mem_of_mem_drop hx), h2⟩
  exact ⟨okW_whole o1 h3, h4.elim (okW_whole o2) (okW_none o2)⟩
theorem codes_okW {s t : Sta} {c : List Nat × List Nat} (hs : s.at_ ≤ 8 * bs.length) (h : codes bs s = .ok c t) : OkW c.1 ∧ OkW c.2 := by
  obtain ⟨l, s1, h1, h⟩ := Res.bind_is h
  obtain ⟨d, s2, h2, h⟩ := Res.bind_is h
  obtain ⟨n, s3, h3, h⟩ := Res.bind_is h
  have k1 := rdN_pr (lim := 0) _ _ _ _ hs h1
  have k2 := rdN_pr (lim := 0) _ _ _ _ k1.end_ h2
  have k3 := rdN_pr (lim := 0) _ _ _ _ k2.end_ h3
  split at h
  · cases h
  · rename_i hld
    obtain ⟨o, s4, h4, h⟩ := Res.bind_is h
    have k4 := rdO_pr (lim := 0) _ _ _ _ _ k3.end_ h4
    split at h
    · cases h
    · obtain ⟨row, s5, h5, h⟩ := Res.bind_is h
      obtain ⟨r1, r2⟩ := lens_is (ownOf_len o) k4.end_ h5
      split at h
      · cases h
      · split at h
        · rename_i hf
          cases h
          exact fits_okW (by omega) r2 hf
        · cases h
theorem codes_cut (h : Cu b' bs) (s : Sta) (hs : s.at_ ≤ 8 * b'.length) : Rl 15 (Bd b') (codes b' s) (codes bs s) := by
  have hl := h.len
  have hL : 8 * b'.length ≤ 8 * bs.length := Nat.mul_le_mul_left 8 hl
  have fin : ∀ l (row : List Nat) (s5 : Sta) b t, Bd b' s5 → (if row.getD 256 0 = 0 then Res.bad 10 else if fits row (257 + l) then .ok (row.take (257 + l), row.drop (257 + l)) s5 else .bad 10) = .ok b t → Bd b' t := by
    intro l row s5 b t hp h5
    split at h5
    · cases h5
    · split at h5
      · cases h5; exact hp
      · cases h5
  have fin4 : ∀ l d (o : List Nat) (s4 : Sta) b t, s4.at_ ≤ 8 * bs.length → Bd b' s4 → (if room (ownOf o) ≠ 32768 then Res.bad 10 else (lens bs (ownOf o) (258 + l + d) s4).bind fun row s5 => if row.getD 256 0 = 0 then .bad 10 else if fits row (257 + l) then .ok (row.take (257 + l), row.drop (257 + l)) s5 else .bad 10) = .ok b t → Bd b' t := by
    intro l d o s4 b t hs4 hp h4
    split at h4
    · cases h4
    · obtain ⟨row, s5, h5, h6⟩ := Res.bind_is h4
      exact fin l row s5 b t (bd_le _ _ (lens_pr (lim := 0) _ _ _ _ _ hs4 h5) hp) h6
  have fin3 : ∀ l d c (s3 : Sta) b t, s3.at_ ≤ 8 * bs.length → Bd b' s3 → (if 29 < l ∨ 29 < d then Res.bad 10 else (rdO bs (4 + c) [] s3).bind fun o s4 => if room (ownOf o) ≠ 32768 then .bad 10 else (lens bs (ownOf o) (258 + l + d) s4).bind fun row s5 => if row.getD 256 0 = 0 then .bad 10 else if fits row (257 + l) then .ok (row.take (257 + l), row.drop (257 + l)) s5 else .bad 10) = .ok b t → Bd b' t := by
    intro l d c s3 b t hs3 hp h3
    split at h3
    · cases h3
    · obtain ⟨o, s4, h4, h5⟩ := Res.bind_is h3
      have k4 := rdO_pr (lim := 0) _ _ _ _ _ hs3 h4
      exact fin4 l d o s4 b t k4.end_ (bd_le _ _ k4 hp) h5
  refine (rdN_cut h 5 hs).bind (fun l s1 h1 _ => ?_) (fun l s1 b t h1 hp h2 => ?_)
  · have k1 := rdN_pr (lim := 0) _ _ _ _ hs h1
    refine (rdN_cut h 5 k1.end_).bind (fun d s2 h2 _ => ?_) (fun d s2 b t h2 hp h3 => ?_)
    · have k2 := rdN_pr (lim := 0) _ _ _ _ k1.end_ h2
      refine (rdN_cut h 4 k2.end_).bind (fun c s3 h3 _ => ?_) (fun c s3 b t h3 hp h4 => ?_)
      · have k3 := rdN_pr (lim := 0) _ _ _ _ k2.end_ h3
        split
        · exact .inl rfl
        · refine (rdO_cut h (4 + c) [] _ k3.end_).bind (fun o s4 h4 _ => ?_) (fun o s4 b t h4 hp h5 => ?_)
          · have k4 := rdO_pr (lim := 0) _ _ _ _ _ k3.end_ h4
            split
            · exact .inl rfl
            · rename_i hroom
              have ho := (rdO_is _ _ _ _ _ h4).2 (fun x hx => by simp at hx)
              refine (lens_cut h (own_okW ho (by simpa using hroom)) _ k4.end_).bind (fun _ _ _ _ => .inl rfl) (fun row s5 b t _ hp h6 => fin l row s5 b t hp h6)
          · have k3' : s3.at_ ≤ 8 * bs.length := Nat.le_trans k3.end_ hL
            have k4 := rdO_pr (lim := 0) _ _ _ _ _ k3' h4
            exact fin4 l d o s4 b t k4.end_ hp h5
      · have k3 := rdN_pr (lim := 0) _ _ _ _ (Nat.le_trans k2.end_ hL) h3
        exact fin3 l d c s3 b t k3.end_ hp h4
    · have k2 := rdN_pr (lim := 0) _ _ _ _ (Nat.le_trans k1.end_ hL) h2
      obtain ⟨c, s3, h3, h4⟩ := Res.bind_is h3
      have k3 := rdN_pr (lim := 0) _ _ _ _ k2.end_ h3
      exact fin3 l d c s3 b t k3.end_ (bd_le _ _ k3 hp) h4
  · have k1 := rdN_pr (lim := 0) _ _ _ _ (Nat.le_trans hs hL) h1
    obtain ⟨d, s2, h2, h3⟩ := Res.bind_is h2
    have k2 := rdN_pr (lim := 0) _ _ _ _ k1.end_ h2
    obtain ⟨c, s3, h3, h4⟩ := Res.bind_is h3
    have k3 := rdN_pr (lim := 0) _ _ _ _ k2.end_ h3
    exact fin3 l d c s3 b t k3.end_ (bd_le _ _ (k2.trans k3) hp) h4
theorem fixF_okW : OkW fixF := ⟨⟨by decide, by decide, by decide +kernel⟩, .inl (by decide +kernel)⟩
theorem fixO_okW : OkW fixO := ⟨⟨by decide, by decide, by decide +kernel⟩, .inl (by decide +kernel)⟩
theorem blk_cut (h : Cu b' bs) (s : Sta) (hs : s.at_ ≤ 8 * b'.length) : Rl 15 (Bd b') (blk b' lim s) (blk bs lim s) := by
  have hL : 8 * b'.length ≤ 8 * bs.length := Nat.mul_le_mul_left 8 h.len
  refine (rdN_cut h 2 hs).bind (fun k s1 h1 _ => ?_) (fun k s1 b t h1 hp h2 => ?_)
  · have k1 := rdN_pr (lim := lim) _ _ _ _ hs h1
    split
    · exact stored_cut h s1 k1.end_
    · split
      · exact syms_cut h fixF_okW fixO_okW s1 k1.end_
      · split
        · refine (codes_cut h s1 k1.end_).bind (fun c s2 h2 h2' => ?_) (fun c s2 b t h2 hp h3 => ?_)
          · obtain ⟨o1, o2⟩ := codes_okW k1.end_ h2
            exact syms_cut h o1 o2 s2 (codes_pr (lim := lim) _ _ _ k1.end_ h2).end_
          · exact bd_le _ _ (syms_pr _ _ _ _ _ (codes_pr (lim := lim) _ _ _ (Nat.le_trans k1.end_ hL) h2).end_ h3) hp
        · exact .inl rfl
  · have k1 := rdN_pr (lim := lim) _ _ _ _ (Nat.le_trans hs hL) h1
    split at h2
    · exact bd_le _ _ (stored_pr h.byt _ _ _ k1.end_ h2) hp
    · split at h2
      · exact bd_le _ _ (syms_pr _ _ _ _ _ k1.end_ h2) hp
      · split at h2
        · obtain ⟨c, s2, h3, h4⟩ := Res.bind_is h2
          have k2 := codes_pr (lim := lim) _ _ _ k1.end_ h3
          exact bd_le _ _ (k2.trans (syms_pr _ _ _ _ _ k2.end_ h4)) hp
        · cases h2
theorem infl_cut (h : Cu b' bs) : Rl 15 (Bd b') (infl b' lim) (infl bs lim) := by
  have hL : 8 * b'.length ≤ 8 * bs.length := Nat.mul_le_mul_left 8 h.len
  have hb' : Bs b' := fun x hx => h.byt x (List.mem_of_mem_take (by rw [← h.is_]; exact hx))
  refine Rl.run (lim := lim) hL (blk1_takes hb') (blk1_takes h.byt) (blk1_pr h.byt) bd_le (fun u s hs => ?_) () (Nat.zero_le _)
  refine (rdN_cut h 1 hs).bind (fun l s1 h1 _ => ?_) (fun l s1 b t h1 hp h2 => ?_)
  · have k1 := rdN_pr (lim := lim) _ _ _ _ hs h1
    refine (blk_cut h s1 k1.end_).bind (fun _ _ _ _ => .inl rfl) ?_
    intro a s2 b t _ hp h2
    cases h2
    exact hp
  · have k1 := rdN_pr (lim := lim) _ _ _ _ (Nat.le_trans hs hL) h1
    obtain ⟨_, s2, h3, h4⟩ := Res.bind_is h2
    have k2 := bd_le _ _ (blk_pr h.byt _ _ _ k1.end_ h3) hp
    cases h4
    exact k2
/-- What lies behind is nothing to it; less is too little. -/
theorem infl_used (hb : Bs bs) {t : Sta} (h : infl bs lim = .ok () t) (c : Nat) : ((t.at_ + 7) / 8 ≤ c → infl (bs.take c) lim = .ok () t) ∧ (c < (t.at_ + 7) / 8 → infl (bs.take c) lim = .bad 15) := by
  have hr := infl_cut (lim := lim) (Cu.take hb c)
  have hle := (infl_le hb h).end_
  have hlen : (bs.take c).length = min c bs.length := List.length_take
  constructor
  · intro hc
    exact hr.ok h (by unfold Bd; omega)
  · intro hc
    rcases hr with hr | ⟨hr, _⟩
    · rw [h] at hr
      have := (infl_le (Cu.take hb c |>.is_ ▸ fun x hx => hb x (List.mem_of_mem_take hx)) hr).end_
      omega
    · exact hr
/-- More bytes behind. -/
theorem infl_more {a m : List Nat} (ha : Bs (a ++ m)) {t : Sta} (h : infl a lim = .ok () t) : infl (a ++ m) lim = .ok () t := by
  have hr := infl_cut (lim := lim) (b' := a) (bs := a ++ m) ⟨by simp, ha⟩
  exact hr.back h
end
end Go.Proofs.YtnnkegpnjedneaaDoor

/-
  alive.
-/
namespace Go.Proofs.YtnnkegpnjedneaaDoor
open Go.RowKit
set_option maxRecDepth 100000

theorem al_1 : infl [75, 4, 0] 9 = .ok () ⟨18, [97], 2, 1⟩ := by rfl
theorem al_2 : infl [1, 2, 0, 253, 255, 7, 8, 99] 2 = .ok () ⟨56, [7, 8], 2, 1⟩ := by rfl
theorem al_3 : infl [1, 2, 0, 253, 255, 7, 8] 1 = .bad 14 := by rfl
theorem al_4 : infl [7] 1 = .bad 10 := by rfl

theorem alloc_size (w : World) (o : Obj) : (w.alloc o).heap.size = w.heap.size + 1 := Array.size_push _
theorem by_lit (w : World) (xs : List Nat) (cs : Array Value) (n q : Nat) (hq : q = w.heap.size) (hn : xs.length = n) (hc : cs = (u8s xs).toArray) : BySl (w.alloc (.cells cs 5)) (.slice (some ⟨q, 0, none⟩) n n) xs := by
  subst hn hc hq
  refine .inr ⟨⟨w.heap.size, 0, none⟩, xs.length, rfl, Nat.le_refl _, fun j u hu => ?_⟩
  have := (Blk.made w 5 (u8s xs).toArray).cell j
  rw [show (⟨w.heap.size, 0, none⟩ : Addr).add j = ⟨w.heap.size, j, none⟩ by simp [Addr.add]; omega, this]
  simpa using hu

theorem by_text (w : World) (xs : List Nat) (cs : Array Value) (n q : Nat) (z : Nat × Nat) (hq : q = w.heap.size) (hn : xs.length = n) (hc : cs = (u8s xs).toArray) : BySl (w.alloc (.cells cs 5 z)) (.slice (some ⟨q, 0, none⟩) n n) xs := by
  subst hn hc hq
  refine .inr ⟨⟨w.heap.size, 0, none⟩, xs.length, rfl, Nat.le_refl _, fun j u hu => ?_⟩
  have : (w.alloc (.cells (u8s xs).toArray 5 z)).cell? ⟨w.heap.size, j, none⟩ = (u8s xs).toArray[j]? := cell_of_row _ _ j _ 5 z (heap_alloc_new w _)
  rw [show (⟨w.heap.size, 0, none⟩ : Addr).add j = ⟨w.heap.size, j, none⟩ by simp [Addr.add]; omega, this]
  simpa using hu
/-- An answer that is kept. -/
structure Ans (W : World) (b base : Nat) (ov : Value) (out : List Nat) (u st bl : Nat) : Prop where
  blk : Blk W b 35 #[ov, .int .i64 (u : Nat), .int .i64 (st : Nat), .int .i64 (bl : Nat)]
  own : W.ownsRow base 5 1 ov out.length (u8s out)
section
variable {W W' : World} {b base : Nat} {ov : Value} {out : List Nat} {u st bl : Nat}
theorem Ans.below (h : Ans W b base ov out u st bl) (hb : Below W.heap.size W W') : Ans W' b base ov out u st bl :=
  ⟨h.blk.below hb, ownsRow_touch h.own (Touch.of_below hb : Touch (fun _ => False) W W') fun _ _ h => h⟩
theorem Ans.by (h : Ans W b base ov out u st bl) : BySl W ov out := BySl.own h.own
/-- The cells that a walk wants. -/
theorem Ans.c (h : Ans W b base ov out u st bl) :
    W.cell? ⟨b, 0, none⟩ = some ov ∧ W.cell? ⟨b, 1, none⟩ = some (.int .i64 (u : Nat)) ∧ W.cell? ⟨b, 2, none⟩ = some (.int .i64 (st : Nat)) ∧ W.cell? ⟨b, 3, none⟩ = some (.int .i64 (bl : Nat)) :=
  ⟨(h.blk.cell 0).trans rfl, (h.blk.cell 1).trans rfl, (h.blk.cell 2).trans rfl, (h.blk.cell 3).trans rfl⟩
end
/-- A box of an answer. -/
abbrev box4 (w1 : World) (ov : Value) (u st bl : Nat) : World := w1.alloc (.cells #[ov, .int .i64 (u : Nat), .int .i64 (st : Nat), .int .i64 (bl : Nat)] 35)
theorem Ans.made {w1 : World} {base : Nat} {ov : Value} {out : List Nat} {u st bl : Nat} (h : w1.ownsRow base 5 1 ov out.length (u8s out)) :
    Ans (box4 w1 ov u st bl) w1.heap.size base ov out u st bl := ⟨Blk.made _ _ _, h.alloc _⟩
theorem _root_.Go.RowKit.Below.more {B : Nat} {w w1 : World} (h : Below B w w1) (hB : B ≤ w.heap.size) (o : Obj) : Below B w (w1.alloc o) := h.alloc (Nat.le_trans hB h.size) o
theorem _root_.Go.RowKit.Below.on {w w1 w2 : World} (h : Below w.heap.size w w1) (k : Below w1.heap.size w1 w2) : Below w.heap.size w w2 := h.trans (k.mono h.size)

set_option maxHeartbeats 3200000 in
theorem alive_any (w : World) (hT : Tab w) : Calls Tryd.prog 10 #[] w fun e w' => e = .returned (.bool true) ∧ Below w.heap.size w w' := by
  have HT := Lib.hid hT
  have hp := hT.pos
  have hc := fun (w : World) (C : Array Value) (n c : Nat) => Lib.run_convert_bytes_const (P := Tryd.prog) w 22 5 C n c Tryd.underlying22 Tryd.underlying5
  clear hT
  go_enter Tryd.func10, Tryd.ntmps10
  go_wp2_with fail
  have b0 := (Below.refl w.heap.size w).more (Nat.le_refl _) (.cells #[.int .u8 75, .int .u8 4, .int .u8 0] 5)
  refine (Inflate_any (by_lit w [75, 4, 0] _ 3 _ rfl rfl rfl) (fun x hx => by simp at hx; omega) (by decide) 9 9 rfl (by decide) (HT.out.below b0) (Nat.lt_of_lt_of_le hp b0.size)).mono ?_
  rintro e w1 ⟨bel, h1⟩
  rw [al_1] at h1
  obtain ⟨ov1, rfl, own1⟩ := h1
  obtain ⟨ao1, c1, rfl⟩ := own_shape own1
  have B1 := Lib.hid (b0.on bel)
  have A1 := Lib.hid (Ans.made (out := [97]) (u := 3) (st := 2) (bl := 1) own1)
  clear own1 b0 bel
  go_wp2_with fail
  have hs1 := alloc_size w1 (.cells #[.slice ao1 1 c1, .int .i64 3, .int .i64 2, .int .i64 1] 35)
  have b0 := (B1.out.more (Nat.le_refl _) (.cells #[.slice ao1 1 c1, .int .i64 3, .int .i64 2, .int .i64 1] 35))
  have b1 := b0.more (Nat.le_refl _) (.cells #[.int .u8 1, .int .u8 2, .int .u8 0, .int .u8 253, .int .u8 255, .int .u8 7, .int .u8 8, .int .u8 99] 5)
  have A2 := Lib.hid (A1.out.below (Below.refl _ _ |>.more (Nat.le_refl _) (.cells #[.int .u8 1, .int .u8 2, .int .u8 0, .int .u8 253, .int .u8 255, .int .u8 7, .int .u8 8, .int .u8 99] 5)))
  refine (Inflate_any (by_lit _ [1, 2, 0, 253, 255, 7, 8, 99] _ 8 _ hs1.symm rfl rfl) (fun x hx => by simp at hx; omega) (by decide) 2 2 rfl (by decide) (HT.out.below b1) (Nat.lt_of_lt_of_le hp b1.size)).mono ?_
  rintro e w2 ⟨bel, h2⟩
  rw [al_2] at h2
  obtain ⟨ov2, rfl, own2⟩ := h2
  obtain ⟨ao2, c2, rfl⟩ := own_shape own2
  have B2 := Lib.hid (b1.on bel)
  have A3 := Lib.hid (A2.out.below bel)
  have C3 := Lib.hid (Ans.made (out := [7, 8]) (u := 7) (st := 2) (bl := 1) own2)
  clear own2 b0 b1 bel hs1 A1 A2 B1
  generalize w1.heap.size = q1 at *
  go_wp2_with fail
  have hs2 := alloc_size w2 (.cells #[.slice ao2 2 c2, .int .i64 7, .int .i64 2, .int .i64 1] 35)
  have b0 := (B2.out.more (Nat.le_refl _) (.cells #[.slice ao2 2 c2, .int .i64 7, .int .i64 2, .int .i64 1] 35))
  have b1 := b0.more (Nat.le_refl _) (.cells #[.int .u8 1, .int .u8 2, .int .u8 0, .int .u8 253, .int .u8 255, .int .u8 7, .int .u8 8] 5)
  have bb := ((Below.refl w2.heap.size w2).more (Nat.le_refl _) (.cells #[.slice ao2 2 c2, .int .i64 7, .int .i64 2, .int .i64 1] 35)).more (Nat.le_refl _) (.cells #[.int .u8 1, .int .u8 2, .int .u8 0, .int .u8 253, .int .u8 255, .int .u8 7, .int .u8 8] 5)
  have A4 := Lib.hid (A3.out.below bb)
  have C4 := Lib.hid (C3.out.below (Below.refl _ _ |>.more (Nat.le_refl _) (.cells #[.int .u8 1, .int .u8 2, .int .u8 0, .int .u8 253, .int .u8 255, .int .u8 7, .int .u8 8] 5)))
  refine (Inflate_any (by_lit _ [1, 2, 0, 253, 255, 7, 8] _ 7 _ hs2.symm rfl rfl) (fun x hx => by simp at hx; omega) (by decide) 1 1 rfl (by decide) (HT.out.below b1) (Nat.lt_of_lt_of_le hp b1.size)).mono ?_
  rintro e w3 ⟨bel, h3⟩
  rw [al_3] at h3
  obtain rfl := h3
  have B3 := Lib.hid (b1.on bel)
  have A5 := Lib.hid (A4.out.below bel)
  have C5 := Lib.hid (C4.out.below bel)
  clear b0 b1 bel hs2 A3 A4 C3 C4 B2 bb
  generalize w2.heap.size = q2 at *
  go_wp2_with fail
  have hs3 := alloc_size w3 (.cells #[.slice none 0 0, .int .i64 0, .int .i64 0, .int .i64 0] 35)
  have b0 := (B3.out.more (Nat.le_refl _) (.cells #[.slice none 0 0, .int .i64 0, .int .i64 0, .int .i64 0] 35))
  have b1 := b0.more (Nat.le_refl _) (.cells #[.int .u8 7] 5)
  have bb := ((Below.refl w3.heap.size w3).more (Nat.le_refl _) (.cells #[.slice none 0 0, .int .i64 0, .int .i64 0, .int .i64 0] 35)).more (Nat.le_refl _) (.cells #[.int .u8 7] 5)
  have A6 := Lib.hid (A5.out.below bb)
  have C6 := Lib.hid (C5.out.below bb)
  refine (Inflate_any (by_lit _ [7] _ 1 _ hs3.symm rfl rfl) (fun x hx => by simp at hx; omega) (by decide) 1 1 rfl (by decide) (HT.out.below b1) (Nat.lt_of_lt_of_le hp b1.size)).mono ?_
  rintro e w4 ⟨bel, h4⟩
  rw [al_4] at h4
  obtain rfl := h4
  have B4 := Lib.hid (b1.on bel)
  have A7 := Lib.hid (A6.out.below bel)
  have C7 := Lib.hid (C6.out.below bel)
  clear b0 b1 bel hs3 A5 A6 C5 C6 B3 bb
  have b0 := (B4.out.more (Nat.le_refl _) (.cells #[.slice none 0 0, .int .i64 0, .int .i64 0, .int .i64 0] 35))
  have bb := ((Below.refl w4.heap.size w4).more (Nat.le_refl _) (.cells #[.slice none 0 0, .int .i64 0, .int .i64 0, .int .i64 0] 35))
  have A8 := Lib.hid (A7.out.below bb)
  have C8 := Lib.hid (C7.out.below bb)
  have B5 := Lib.hid b0
  clear b0 bb A7 C7 B4
  go_wp2_with fail
  refine (Length_any 270 _).mono ?_
  rintro e w5 ⟨he, hw⟩
  obtain rfl : e = .returned (.tuple #[.int .i64 23, .int .i64 2, .bool true]) := he
  rw [hw] at A8 C8 B5
  clear hw
  go_wp2_with fail
  refine (Distance_any 29 _).mono ?_
  rintro e w6 ⟨he, rfl⟩
  obtain rfl : e = .returned (.tuple #[.int .i64 24577, .int .i64 13, .bool true]) := he
  obtain ⟨x0, x1, x2, x3⟩ := A8.out.c
  obtain ⟨y0, y1, y2, y3⟩ := C8.out.c
  have hx : Hid (BySl w5 (.slice ao1 1 c1) [97]) := Lib.hid A8.out.by
  have b6 := (Below.refl w5.heap.size w5).more (Nat.le_refl _) (.cells #[.int .u8 97] 5 (1, 2))
  go_wp2_with fail
  refine (same_any (A8.out.below b6).by (by_text w5 [97] _ 1 _ _ rfl rfl rfl) (by decide)).mono ?_
  rintro e w7 ⟨he, nq, hw⟩
  obtain rfl : e = .returned (.bool true) := he
  have k7 : Below w5.heap.size w5 w7 := by rw [hw]; exact below_drewN b6 nq
  obtain ⟨x0, x1, x2, x3⟩ := (A8.out.below k7).c
  have C9 := Lib.hid (C8.out.below k7)
  obtain ⟨y0, y1, y2, y3⟩ := C9.out.c
  have B7 := Lib.hid (B5.out.on k7)
  clear hw b6 k7
  go_wp2_with fail
  have b8 := (Below.refl w7.heap.size w7).more (Nat.le_refl _) (.cells #[.int .u8 7, .int .u8 8] 5)
  refine (same_any (C9.out.below b8).by (by_lit w7 [7, 8] _ 2 _ rfl rfl rfl) (by decide)).mono ?_
  rintro e w8 ⟨he, nq, hw⟩
  obtain rfl : e = .returned (.bool true) := he
  have k8 : Below w7.heap.size w7 w8 := by rw [hw]; exact below_drewN b8 nq
  obtain ⟨y0, y1, y2, y3⟩ := (C9.out.below k8).c
  have B8 := Lib.hid (B7.out.on k8)
  clear hw b8 k8
  go_wp2
  go_ret
  exact ⟨rfl, B8.out⟩
end Go.Proofs.YtnnkegpnjedneaaDoor

/-
  From a row's condition to the walk's facts; a slice that came in, opened, and its parts.
-/
namespace Go.Proofs.YtnnkegpnjedneaaDoor
open Go.ChangeShapes Go.WideShapes Go.ChangeAt Go.RowKit
set_option maxRecDepth 100000

theorem own : ownKnob Tryd.prog.godebug = none := by kernel_rfl
theorem laidOut : laidOutB Tryd.prog = true := by kernel_rfl
abbrev laidL : List (String × DataW Unit) := [("etui/inflate.ownOrder", Rows.laid_etui_inflate_ownOrder)]
theorem ord_z : ∀ j, j < 19 → ([16, 17, 18, 0, 8, 7, 9, 6, 10, 5, 11, 4, 12, 3, 13, 2, 14, 1, 15] : List Int).getD j 0 = ((ord.getD j 0 : Nat) : Int) := by decide
theorem tab_of {W : World} (h : laidMetH Tryd.prog laidL W) : Tab W := by
  rw [MakeChecks.laidMetH_plain _ _ _ (by kernel_rfl)] at h
  have ht := Lib.tabIs_of_head (P := Tryd.prog) (name := "etui/inflate.ownOrder") (k := .i64) (zs := [16, 17, 18, 0, 8, 7, 9, 6, 10, 5, 11, 4, 12, 3, 13, 2, 14, 1, 15]) (rest := []) (g := 0) (t := 142) (e := 3) (n := 19) (by kernel_rfl) (by kernel_rfl) Tryd.underlying142 Tryd.underlying3 (by kernel_rfl) (by kernel_rfl) h
  intro j hj
  have := ht.cell (g := 0) (by kernel_rfl) j hj
  rw [ord_z j hj] at this
  exact this

theorem by_open {H : Type} {enc : TypeId × Value → H} {w : World} {base : Nat} {spare : Nat → Bool} {held : Bool} {fuel : Nat} {a : Option Addr} {len cap : Nat} {y : DataW H × List MemPlace}
    (h : DataW.trod enc Tryd.prog w base spare held fuel 22 [.slice a len cap] = some y) : ∃ xs : List Nat, xs.length = len ∧ Bs xs ∧ BySl w (.slice a len cap) xs ∧ len ≤ cap ∧ cap ≤ maxLen := by
  rcases open_ints Tryd.underlying22 Tryd.underlying5 (by kernel_rfl) h with ⟨hcs, _⟩ | ⟨ad, l, c, zs, hcs, _, hl, hm, hz, _, hcell, hwf⟩
  · simp at hcs
    obtain ⟨rfl, rfl, rfl⟩ := hcs
    exact ⟨[], rfl, (fun x h => by cases h), .inl ⟨rfl, rfl⟩, Nat.le_refl _, Nat.zero_le _⟩
  · simp at hcs
    obtain ⟨rfl, rfl, rfl⟩ := hcs
    have hzl : len ≤ zs.length := by rw [hz]; split <;> omega
    have hbd : ∀ n ∈ zs, 0 ≤ n ∧ n < 256 := fun n hn => by have := bounds_u8 (hwf n hn); omega
    have hlen : ((zs.take len).map Int.toNat).length = len := by rw [List.length_map, List.length_take]; omega
    refine ⟨(zs.take len).map Int.toNat, hlen, ?_, .inr ⟨ad, cap, by rw [hlen], by omega, fun j u hu => ?_⟩, hl, hm⟩
    · intro x hx
      obtain ⟨z, hz1, rfl⟩ := List.mem_map.1 hx
      have := hbd z (List.mem_of_mem_take hz1)
      omega
    · have hj : j < len := by
        have := (List.getElem?_eq_some_iff.1 hu).1
        simp only [u8s, List.length_map] at this
        rw [← hlen]; simpa using this
      have hcj := hcell j (by omega)
      rw [hcj]
      have hm' := hbd (zs[j]'(by omega)) (List.getElem_mem _)
      simp [u8s, hj, show j < zs.length by omega, Int.toNat_of_nonneg hm'.1] at hu ⊢
      exact hu

theorem BySl.grow {w w' : World} {v : Value} {xs : List Nat} (h : BySl w v xs) (hb : Below w.heap.size w w') : BySl w' v xs :=
  h.touch (Touch.of_below hb : Touch (fun _ => False) w w') fun _ _ h => h
theorem BySl.take {w : World} {ad : Addr} {n c : Nat} {xs : List Nat} (h : BySl w (.slice (some ad) n c) xs) (k : Nat) (hk : k ≤ xs.length) : BySl w (.slice (some ad) k c) (xs.take k) := by
  rcases h with ⟨h, _⟩ | ⟨ad', c', he, hc, h⟩
  · cases h
  · simp only [Value.slice.injEq, Option.some.injEq] at he
    obtain ⟨rfl, rfl, rfl⟩ := he
    refine .inr ⟨ad, c, by rw [List.length_take, Nat.min_eq_left hk], by rw [List.length_take]; omega, fun j u hu => h j u ?_⟩
    simp only [u8s, List.map_take] at hu ⊢
    have hj := (List.getElem?_eq_some_iff.1 hu).1
    rw [List.length_take] at hj
    rw [List.getElem?_take_of_lt (by omega)] at hu
    exact hu
theorem BySl.bs_some {w : World} {ao : Option Addr} {n c : Nat} {xs : List Nat} (h : BySl w (.slice ao n c) xs) (hp : 0 < xs.length) : ∃ b off, ao = some ⟨b, off, none⟩ ∧ n = xs.length ∧ xs.length ≤ c := by
  obtain ⟨b, off, c', he, hc, _⟩ := h.at hp
  simp only [Value.slice.injEq] at he
  exact ⟨b, off, he.1, he.2.1, he.2.2 ▸ hc⟩

/-- What is told took bits. -/
theorem infl_pos {bs : List Nat} {lim : Nat} (hb : Bs bs) {t : Sta} (h : infl bs lim = .ok () t) : 0 < t.at_ ∧ 1 ≤ t.blocks ∧ t.at_ ≤ 8 * bs.length ∧ t.steps ≤ t.at_ ∧ t.blocks ≤ t.at_ ∧ t.out.length ≤ lim := by
  have hl := infl_le hb h
  have h1 : t.steps ≤ t.at_ := by have := hl.steps; simp [st0] at this; omega
  have h2 : t.blocks ≤ t.at_ := by have := hl.blocks; simp [st0] at this; omega
  have hk : 0 < t.at_ ∧ 1 ≤ t.blocks := by
    have key : ∀ n s, 8 * bs.length - s.at_ ≤ n → s.at_ ≤ 8 * bs.length → run (8 * bs.length) (blk1 bs lim) () s = .ok () t → 0 < t.at_ ∧ 1 ≤ t.blocks := by
      intro n
      induction n with
      | zero =>
        intro s hn hs hr
        rw [run_eq (blk1_takes hb) () hs] at hr
        obtain ⟨x, s', k1, _⟩ := Res.bind_is hr
        have := blk1_takes hb () s x s' hs k1
        omega
      | succ n ih =>
        intro s hn hs hr
        rw [run_eq (blk1_takes hb) () hs] at hr
        obtain ⟨x, s', k1, k2⟩ := Res.bind_is hr
        have k3 := blk1_takes hb () s x s' hs k1
        split at k2
        · cases k2
          exact ⟨by omega, (blk1_le hb hs k1).2.2⟩
        · exact ih s' (by omega) k3.2 k2
    exact key _ st0 (Nat.le_refl _) (Nat.zero_le _) h
  exact ⟨hk.1, hk.2, hl.end_, h1, h2, hl.lim_ (Nat.zero_le _)⟩
end Go.Proofs.YtnnkegpnjedneaaDoor

/-
  Inflate, as the laws call it.
-/
namespace Go.Proofs.YtnnkegpnjedneaaDoor
open Go.RowKit
set_option maxRecDepth 100000

theorem Inflate_ok {w : World} {v : Value} {bs out : List Nat} {limit : Int} {at_ u n st bl : Nat} (h : BySl w v bs) (hb : Bs bs) (hl : bs.length ≤ 100000) (hl2 : limit ≤ 2000000) (hT : Tab w) (hi : infl bs limit.toNat = .ok () ⟨at_, out, st, bl⟩) (hu : u = (at_ + 7) / 8) (hn : n = out.length) :
    Calls Tryd.prog 21 #[v, .int .i64 limit] w fun e w' => ∃ ao c, e = .returned (.tuple #[.agg #[.slice ao n c, .int .i64 (u : Nat), .int .i64 (st : Nat), .int .i64 (bl : Nat)], .int .i64 0]) ∧ Below w.heap.size w w' ∧ Ans (box4 w' (.slice ao n c) u st bl) w'.heap.size w.heap.size (.slice ao n c) out u st bl := by
  subst hu hn
  refine (Inflate_any h hb hl limit limit.toNat rfl (by omega) hT hT.pos).mono ?_
  rintro e w' ⟨bel, h2⟩
  rw [hi] at h2
  obtain ⟨ov, rfl, own⟩ := h2
  obtain ⟨ao, c, rfl⟩ := own_shape own
  exact ⟨ao, c, rfl, bel, Ans.made own⟩
theorem Inflate_bad {w : World} {v : Value} {bs : List Nat} {limit : Int} {er : Nat} (h : BySl w v bs) (hb : Bs bs) (hl : bs.length ≤ 100000) (hl2 : limit ≤ 2000000) (hT : Tab w) (hi : infl bs limit.toNat = .bad er) :
    Calls Tryd.prog 21 #[v, .int .i64 limit] w fun e w' => e = .returned (.tuple #[.agg #[.slice none 0 0, .int .i64 0, .int .i64 0, .int .i64 0], .int .i64 (er : Nat)]) ∧ Below w.heap.size w w' := by
  refine (Inflate_any h hb hl limit limit.toNat rfl (by omega) hT hT.pos).mono ?_
  rintro e w' ⟨bel, h2⟩
  rw [hi] at h2
  exact ⟨h2, bel⟩
end Go.Proofs.YtnnkegpnjedneaaDoor

/-
  CopyBytes; bytes put behind bytes of the law's own.
-/
namespace Go.Proofs.YtnnkegpnjedneaaDoor
open Go.RowKit
set_option maxRecDepth 100000

theorem own_lit0 (w : World) : (w.alloc (.cells #[] 5)).ownsRow w.heap.size 5 1 (.slice (some ⟨w.heap.size, 0, none⟩) 0 0) 0 (u8s []) := by
  refine ⟨by simp [u8s], .inr ⟨w.heap.size, 0, #[], rfl, Nat.le_refl _, Blk.made w 5 #[], by simp, by simp [u8s]⟩⟩

def Kept (w : World) (xs : List Nat) (e : Ending) (w' : World) : Prop :=
  ∃ ao c, e = .returned (.slice ao xs.length c) ∧ w'.ownsRow w.heap.size 5 1 (.slice ao xs.length c) xs.length (u8s xs) ∧ Below w.heap.size w w'

theorem copy_any {w : World} {v : Value} {xs : List Nat} (h : BySl w v xs) (hl : xs.length ≤ 100000) : Calls Tryd.prog 11 #[v] w (Kept w xs) := by
  obtain ⟨aos, cs, rfl⟩ := h.len
  have HS := Lib.hid (h.grow ((Below.refl w.heap.size w).more (Nat.le_refl _) (.cells #[] 5)))
  have hsz := alloc_size w (.cells #[] 5)
  clear h
  go_enter Tryd.func11, Tryd.ntmps11
  go_wp2_with (refine wpList_append_x rfl (.tmp 5) (.tmp 6) rfl w.heap.size (.slice (some ⟨w.heap.size, 0, none⟩) 0 0) (.slice aos xs.length cs) [] xs rfl rfl (own_lit0 w) HS.out (by omega) (by simp; omega) ?_; intro ao2 cc2 w5 hA; rw [List.nil_append] at hA; have HA := Lib.hid hA; clear hA)
  go_ret
  refine ⟨ao2, cc2, rfl, HA.out.own, ?_⟩
  refine Below.trans ((Below.refl w.heap.size w).more (Nat.le_refl _) (.cells #[] 5)) ((HA.out.touch).below (by omega) fun k hk => ?_)
  simp only [Value.ownBlock, Option.some.injEq] at hk
  omega

theorem Inflate_gen {w : World} {v : Value} {bs : List Nat} {limit : Int} (h : BySl w v bs) (hb : Bs bs) (hl : bs.length ≤ 100000) (hl2 : limit ≤ 2000000) (hT : Tab w) :
    Calls Tryd.prog 21 #[v, .int .i64 limit] w fun e w' => ∃ ao n c u st bl er : _, e = .returned (.tuple #[.agg #[.slice ao n c, .int .i64 (u : Nat), .int .i64 (st : Nat), .int .i64 (bl : Nat)], .int .i64 (er : Nat)]) ∧ Below w.heap.size w w' := by
  cases hi : infl bs limit.toNat with
  | bad er =>
    refine (Inflate_bad h hb hl hl2 hT hi).mono ?_
    rintro e w' ⟨rfl, bel⟩
    exact ⟨none, 0, 0, 0, 0, 0, er, rfl, bel⟩
  | ok _ t =>
    obtain ⟨at_, out, st, bl⟩ := t
    refine (Inflate_ok h hb hl hl2 hT hi rfl rfl).mono ?_
    rintro e w' ⟨ao, c, rfl, bel, _⟩
    exact ⟨ao, out.length, c, (at_ + 7) / 8, st, bl, 0, rfl, bel⟩

theorem BySl.drop {w : World} {b off n c : Nat} {xs : List Nat} (h : BySl w (.slice (some ⟨b, off, none⟩) n c) xs) (k : Nat) (hk : k < xs.length) : BySl w (.slice (some ⟨b, off + k, none⟩) (xs.length - k) (c - k)) (xs.drop k) := by
  rcases h with ⟨h, _⟩ | ⟨ad', c', he, hc, h⟩
  · cases h
  · simp only [Value.slice.injEq, Option.some.injEq] at he
    obtain ⟨rfl, rfl, rfl⟩ := he
    refine .inr ⟨⟨b, off + k, none⟩, c - k, by rw [List.length_drop], by rw [List.length_drop]; omega, fun j u hu => ?_⟩
    simp only [u8s, List.map_drop, List.getElem?_drop] at hu
    have := h (k + j) u hu
    rw [Addr.add_lit] at this ⊢
    rw [← this]
    congr 2
    omega
/-- What was kept, and more behind it. -/
theorem Apd.kept {w w1 w' : World} {v v' : Value} {xs ys : List Nat} (hown : w1.ownsRow w.heap.size 5 1 v xs.length (u8s xs)) (hb : Below w.heap.size w w1) (h : Apd w1 w.heap.size v ys v' w') : Below w.heap.size w w' :=
  hb.trans (h.touch.below hb.size fun k hk => (hown.lt k hk).1)
end Go.Proofs.YtnnkegpnjedneaaDoor

