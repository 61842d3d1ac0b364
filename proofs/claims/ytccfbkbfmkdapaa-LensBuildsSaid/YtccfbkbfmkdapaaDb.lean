/-
  Rows of coins in memory, blocks that a loop over a function lays; contract of rowsOf.
-/
import Derived.Test.YtccfbkbfmkdapaaDa
import Derived.Maps.OwnIn
namespace Go.Proofs.Ytccfbkbfmkdapaa
open Go.RowKit Go.Shelf

attribute [local go_sem] Oper.semAt_some

theorem blk_kept {W W' : World} {row : Option Nat} {g : Nat} {t : TypeId} {cs : Array Value} (h : Blk W g t cs) (hg : W.grownBy W' row) (hr : ∀ r, row = some r → ∃ o : Obj, W.heap[r]? = some o ∧ o.isCells = false) : Blk W' g t cs := by
  refine (hg.block g h.lt fun e => ?_).trans h
  obtain ⟨o, ho, hc⟩ := hr g e.symm
  rw [show W.heap[g]? = _ from h] at ho
  cases ho; cases hc
theorem own_kept {W W' : World} {row : Option Nat} {base e size n : Nat} {v : Value} {xs : List Value} (h : W.ownsRow base e size v n xs) (hg : W.grownBy W' row) (hr : ∀ r, row = some r → ∃ o : Obj, W.heap[r]? = some o ∧ o.isCells = false) : W'.ownsRow base e size v n xs := by
  refine ⟨h.1, ?_⟩
  rcases h.2 with hn | ⟨g, cap, cur, rfl, hb, hgg, rest⟩
  · exact .inl hn
  · refine .inr ⟨g, cap, cur, rfl, hb, ?_, rest⟩
    refine (hg.block g (Array.getElem?_eq_some_iff.1 hgg).1 fun e => ?_).trans hgg
    obtain ⟨o, ho, hc⟩ := hr g e.symm
    rw [hgg] at ho
    cases ho; cases hc

/-- A row of coins that lies apart from block g. -/
structure RowAt (W : World) (g : Option Nat) (ao : Option Addr) (c : Nat) (r : List (Nat × Bool)) : Prop where
  cs : CS W ao r
  room : r.length ≤ c
  nil : ao = none → c = 0
  lt : ∀ b off, ao = some ⟨b, off, none⟩ → b < W.heap.size ∧ g ≠ some b

/-- The rows for the first k bits. -/
structure Rst (w W : World) (cs : List Nat) (k : Nat) (v : Value) : Prop where
  own : ∃ vals, W.ownsRow w.heap.size 56 1 v k vals ∧ ∀ j, j < k → ∃ ao c, vals[j]? = some (.slice ao (row cs j).length c) ∧ RowAt W v.ownBlock ao c (row cs j)
  below : Below w.heap.size w W

/-- The cells of the coins that two by two make. -/
def dcl (pre : List ((Nat × Bool) × (Nat × Bool))) : List Value := pre.flatMap fun p => [.int .i64 (wrap64 ((p.1.1 : Int) + p.2.1)), .bool false]
theorem dcl_app (pre : List ((Nat × Bool) × (Nat × Bool))) (x : (Nat × Bool) × (Nat × Bool)) : dcl pre ++ [.int .i64 (wrap64 ((x.1.1 : Int) + x.2.1)), .bool false] = dcl (pre ++ [x]) := by simp [dcl]
def sums (pre : List ((Nat × Bool) × (Nat × Bool))) : List Nat := pre.map fun p => p.1.1 + p.2.1
theorem dcl_eq (pre : List ((Nat × Bool) × (Nat × Bool))) (h : ∀ x ∈ sums pre, x ≤ 4611686018427387904) : dcl pre = cl (db (sums pre)) := by
  induction pre with
  | nil => rfl
  | cons p pre ih =>
    have h1 := h (p.1.1 + p.2.1) (by simp [sums])
    have h2 := ih fun x hx => h x (by simp only [sums, List.map_cons, List.mem_cons] at hx ⊢; exact .inr hx)
    rw [show dcl (p :: pre) = .int .i64 (wrap64 ((p.1.1 : Int) + p.2.1)) :: .bool false :: dcl pre from rfl, h2]
    rw [show sums (p :: pre) = (p.1.1 + p.2.1) :: sums pre from rfl, show db ((p.1.1 + p.2.1) :: sums pre) = (p.1.1 + p.2.1, false) :: db (sums pre) from rfl, cl_cons]
    congr 2
    unfold wrap64
    omega
/-- The double coins that are gathered. -/
structure Dst (bR n₀ : Nat) (wr : World) (pre : List ((Nat × Bool) × (Nat × Bool))) (W : World) : Prop where
  box : ∃ ao c, Blk W bR 56 #[.slice ao pre.length c] ∧ W.ownsRow n₀ 77 2 (.slice ao pre.length c) pre.length (dcl pre)
  below : Below bR wr W
  size : n₀ ≤ W.heap.size
theorem dst_own (bR n₀ : Nat) (hb : bR ≤ n₀) (wr : World) (hw : bR ≤ wr.heap.size) : OwnFrom n₀ (fun (pre : List ((Nat × Bool) × (Nat × Bool))) W => Dst bR n₀ wr pre W) := fun s W W' row hs hg hr => by
  obtain ⟨ao, c, h1, h2⟩ := hs.box
  have hr' := fun r e => (hr r e).2
  exact ⟨⟨ao, c, blk_kept h1 hg hr', own_kept h2 hg hr'⟩, hs.below.grown hg (Nat.le_trans hw hs.below.size) (fun k e => Nat.le_trans hb (hr k e).1), Nat.le_trans hs.size hg.size⟩
theorem Dst.alloc {bR n₀ : Nat} {wr W : World} {pre : List ((Nat × Bool) × (Nat × Bool))} (h : Dst bR n₀ wr pre W) (hw : bR ≤ wr.heap.size) (o : Obj) : Dst bR n₀ wr pre (W.alloc o) := by
  obtain ⟨ao, c, h1, h2⟩ := h.box
  exact ⟨⟨ao, c, h1.touch ((Touch.refl (fun _ => False) W).alloc o) (fun h => h), World.ownsRow.alloc h2 o⟩, h.below.alloc (Nat.le_trans hw h.below.size) o, Nat.le_trans h.size (by simp)⟩
theorem beb_alloc {S : Nat → Prop} {n : Nat} (W : World) (hn : n ≤ W.heap.size) (o : Obj) : Beb S n W (W.alloc o) := Beb.of_below ((Below.refl W.heap.size W).alloc (Nat.le_refl _) o) hn
theorem two_new (W : World) (u v : Value) : ∀ j x, ([u, v] : List Value)[j]? = some x → (W.alloc (.cells #[u, v] 77)).cell? ((⟨W.heap.size, 0, none⟩ : Addr).add j) = some x := fun j x hx => by
  have hj : j < 2 := (List.getElem?_eq_some_iff.1 hx).1
  rw [Addr.add_lit, Nat.zero_add, (Blk.made W 77 #[u, v]).cell]
  rcases (by omega : j = 0 ∨ j = 1) with rfl | rfl
  · exact hx
  · exact hx
/-- One more. -/
theorem Dst.put {bR n₀ : Nat} {wr W w1 : World} {pre : List ((Nat × Bool) × (Nat × Bool))} {ao : Option Addr} {c : Nat} {v' : Value} {x : (Nat × Bool) × (Nat × Bool)} {o : Obj} (h : Dst bR n₀ wr pre W) (hbn : bR < n₀) (hw : bR ≤ wr.heap.size)
    (hB : Blk W bR 56 #[.slice ao pre.length c]) (hO : W.ownsRow n₀ 77 2 (.slice ao pre.length c) pre.length (dcl pre))
    (hown : w1.ownsRow n₀ 77 2 v' (pre.length + 1) (dcl pre ++ [.int .i64 (wrap64 ((x.1.1 : Int) + x.2.1)), .bool false])) (hgrow : (W.alloc o).grownBy w1 (Value.slice ao pre.length c).ownBlock) :
    Blk w1 bR 56 #[.slice ao pre.length c] ∧ ∃ a2 c2, v' = .slice a2 (pre.length + 1) c2 ∧ KeepsFrom n₀ W (w1.setCell ⟨bR, 0, none⟩ v') ∧ Beb (fun k => k = bR) n₀ W (w1.setCell ⟨bR, 0, none⟩ v') ∧ Dst bR n₀ wr (pre ++ [x]) (w1.setCell ⟨bR, 0, none⟩ v') := by
  have hlt := fun k e => hO.lt k e
  have hB1 : Blk w1 bR 56 #[.slice ao pre.length c] := by
    have h1 := hB.touch ((Touch.refl (fun _ => False) W).alloc o) (fun h => h)
    exact (hgrow.block bR h1.lt fun e => by have := (hlt bR e.symm).1; omega).trans h1
  obtain ⟨a2, c2, rfl⟩ := own_shape hown
  have hsz : W.heap.size ≤ w1.heap.size := Nat.le_trans (by simp) hgrow.size
  have hT : Touch (fun k => n₀ ≤ k) W w1 := ((Touch.refl _ W).alloc o).grown hgrow fun k e => .inl (hlt k e).1
  have hT2 : Touch (fun k => k = bR ∨ n₀ ≤ k) W (w1.setCell ⟨bR, 0, none⟩ (.slice a2 (pre.length + 1) c2)) := (hT.mono fun k hk => .inr hk).setCell _ _ (.inl (.inl rfl))
  refine ⟨hB1, a2, c2, rfl, ?_, ?_, ⟨⟨a2, c2, ?_, ?_⟩, ?_, ?_⟩⟩
  · refine (KeepsOthers.trans ?_ (KeepsOthers.setCell _ _ _)).from _
    refine (KeepsOthers.alloc W o).trans (KeepsOthers.of_grownBy hgrow fun j ob e hob => ?_)
    have hj := hlt j e
    rcases hO.2 with ⟨e1, _⟩ | ⟨g, cap, cur, e1, hbg, hh, _⟩
    · rw [e1] at e; cases e
    · rw [e1] at e
      obtain rfl : g = j := by simpa [Value.ownBlock] using e
      have := (Below.heap_alloc W o g hj.2).trans hh
      rw [this] at hob
      cases hob; rfl
  · exact ⟨hT2.os, hT2.tape, hT2.output, hT2.size, fun k hk hs => hT2.block k (Nat.lt_of_lt_of_le hk h.size) (fun e => by rcases e with e | e; exact hs e; omega)⟩
  · have := hB1.setCell 0 (.slice a2 (pre.length + 1) c2)
    rw [List.length_append]
    exact this
  · rw [List.length_append, ← dcl_app]
    exact ownsRow_setCell_other hown (fun e => by have := (hown.lt bR e).1; omega) _
  · exact h.below.trans (hT2.below (Nat.le_trans hw h.below.size) fun k hk => by omega)
  · exact Nat.le_trans h.size hT2.size

def mk (D : Nat) : Deferred := { target := .collected D, args := #[] }
/-- What loops over functions have laid for deferred calls: none. -/
def Marks (n : Nat) (W : World) (ds : List Deferred) : Prop := ∃ Ds : List Nat, ds = Ds.map mk ∧ Ds.Nodup ∧ ∀ D ∈ Ds, n ≤ D ∧ W.heap[D]? = some (.deferred (some []))
theorem marks_nil (n : Nat) (W : World) : Marks n W [] := ⟨[], rfl, List.nodup_nil, fun D hD => by cases hD⟩
theorem Marks.add {n : Nat} {W W' : World} {ds : List Deferred} (h : Marks n W ds) (hsame : ∀ k, k < W.heap.size → W.heap[k]? = some (.deferred (some [])) → W'.heap[k]? = W.heap[k]?) {D : Nat} (hD : W.heap.size ≤ D) (hn : n ≤ D) (hK : W'.heap[D]? = some (.deferred (some []))) : Marks n W' (mk D :: ds) := by
  obtain ⟨Ds, rfl, h1, h2⟩ := h
  refine ⟨D :: Ds, rfl, List.nodup_cons.2 ⟨fun hm => ?_, h1⟩, fun E hE => ?_⟩
  · have := (Array.getElem?_eq_some_iff.1 (h2 D hm).2).1
    omega
  · rcases List.mem_cons.1 hE with rfl | hE
    · exact ⟨hn, hK⟩
    · have := h2 E hE
      exact ⟨this.1, (hsame E (Array.getElem?_eq_some_iff.1 this.2).1 this.2).trans this.2⟩
theorem leave_marks {n n0 : Nat} {fn : Func} {tmps : Array Value} {R : Ending → World → Prop} {v : Value} (hres : ∀ W, (results fn tmps).run Try.prog W = .ok v W) (PF : World → Prop)
    (hPF : ∀ W D, PF W → n0 ≤ D → W.heap[D]? = some (.deferred (some [])) → PF (W.putObj D (.deferred none))) (hR : ∀ W, PF W → R (.returned v) W) (ds : List Deferred) (W : World) (hM : Marks n0 W ds) (hP : PF W) :
    LeavesInM FW n Try.prog fn tmps R ds .returning W := by
  obtain ⟨Ds, rfl, h1, h2⟩ := hM
  induction Ds generalizing W with
  | nil => exact ⟨v, hres W, hR W hP⟩
  | cons D Ds ih =>
    obtain ⟨hn, h1'⟩ := List.nodup_cons.1 h1
    have hD := h2 D List.mem_cons_self
    refine ⟨by simp, .inl ⟨D, _, rfl, run_takeDeferred hD.2, ?_⟩⟩
    refine ih _ (hPF W D hP hD.1 hD.2) h1' (fun E hE => ?_)
    have hE2 := h2 E (List.mem_cons_of_mem _ hE)
    exact ⟨hE2.1, (World.putObj_heap_other (show E ≠ D from fun e => hn (by rw [← e]; exact hE))).trans hE2.2⟩
theorem Rst.put_mark {w W : World} {cs : List Nat} {k : Nat} {v : Value} (h : Rst w W cs k v) {D : Nat} (hD : w.heap.size ≤ D) (hK : W.heap[D]? = some (.deferred (some []))) : Rst w (W.putObj D (.deferred none)) cs k v := by
  obtain ⟨vals, ho, hv⟩ := h.own
  have hg := grownBy_putObj' W D (.deferred none)
  have hr : ∀ r, some D = some r → ∃ o : Obj, W.heap[r]? = some o ∧ o.isCells = false := fun r e => by cases e; exact ⟨_, hK, rfl⟩
  refine ⟨⟨vals, own_kept ho hg hr, fun j hj => ?_⟩, h.below.grown hg h.below.size fun k e => by cases e; exact hD⟩
  obtain ⟨ao, c, h1, h2⟩ := hv j hj
  refine ⟨ao, c, h1, ?_, h2.room, h2.nil, fun b off e => ⟨by have := (h2.lt b off e).1; simpa using this, (h2.lt b off e).2⟩⟩
  rcases h2.cs with h | ⟨b, off, rfl, hc⟩
  · exact .inl h
  · exact .inr ⟨b, off, rfl, fun i x hx => cell_kept (hc i x hx) hg hr⟩
theorem Rst.last {w W : World} {cs : List Nat} {k c5 : Nat} {a5 : Option Addr} (h : Rst w W cs k (.slice a5 k c5)) (hk : 1 ≤ k) :
    ∃ g a6 c6, a5 = some ⟨g, 0, none⟩ ∧ W.cell? ⟨g, k - 1, none⟩ = some (.slice a6 (row cs (k - 1)).length c6) ∧ RowAt W (some g) a6 c6 (row cs (k - 1)) := by
  obtain ⟨vals, ho, hv⟩ := h.own
  rcases ho.2 with ⟨_, h0⟩ | ⟨g, cap, cur, e, hbg, hh, hnc, hcm, hcs, htake⟩
  · omega
  · simp only [Value.slice.injEq] at e
    obtain ⟨rfl, _, rfl⟩ := e
    obtain ⟨a6, c6, h1, h2⟩ := hv (k - 1) (by omega)
    exact ⟨g, a6, c6, rfl, by rw [World.ownsRow.cellAt ho (k - 1) (by omega), h1], h2⟩
theorem rst_start {w : World} {ao : Option Addr} {c : Nat} {cs : List Nat} (h : CS w ao (sg cs)) (hn : ao = none → c = 0) (hc : cs.length ≤ c) (h1 : 2 ≤ cs.length) : Rst w (w.alloc (.cells #[.slice ao cs.length c] 56)) cs 1 (.slice (some ⟨w.heap.size, 0, none⟩) 1 1) := by
  have hb : Below w.heap.size w (w.alloc (.cells #[.slice ao cs.length c] 56)) := (Below.refl _ _).alloc (Nat.le_refl _) _
  refine ⟨⟨[.slice ao cs.length c], ⟨rfl, .inr ⟨w.heap.size, 1, #[.slice ao cs.length c], rfl, Nat.le_refl _, heap_alloc_new w _, Nat.le_refl _, by unfold maxLen; omega, rfl, rfl⟩⟩, fun j hj => ?_⟩, hb⟩
  obtain rfl : j = 0 := by omega
  refine ⟨ao, c, by rw [row_len0]; rfl, by rw [row_z]; exact h.on hb, by rw [row_len0]; exact hc, hn, fun b off e => ?_⟩
  have e := congrArg (Option.map Addr.block) e
  rcases h with h0 | ⟨b', off', rfl, hr⟩
  · have := congrArg List.length h0
    rw [sg_len, List.length_nil] at this
    omega
  · have e2 : b' = b := by simpa using e
    have h2 : b' < w.heap.size := World.block_lt_of_cell? w ⟨b', off' + 0 * 2, none⟩ (hr _ _ (cl_at (sg cs) 0 (by rw [sg_len]; omega)).1)
    rw [World.size_alloc]
    exact ⟨by omega, fun e3 => by simp [Value.ownBlock] at e3; omega⟩

theorem row_small (cs : List Nat) (hl : cs.length ≤ 320) (k : Nat) : (row cs k).length ≤ 640 := by
  induction k with
  | zero => rw [row_len0]; omega
  | succ k ih => rw [row_len]; omega

theorem row_bound {cs : List Nat} {M : Nat} (h : ∀ x ∈ cs, x ≤ M) (k : Nat) : ∀ x ∈ cost (row cs k), x ≤ M * 2 ^ k := by
  induction k with
  | zero => intro x hx; rw [row_z, cost_true] at hx; have := h x hx; omega
  | succ k ih =>
    intro x hx
    rw [row_s] at hx
    have hp : 0 < 2 ^ k := Nat.two_pow_pos k
    rw [Nat.pow_succ]
    rcases mrg_mem hx with h1 | h1
    · have h2 := h x h1
      have h3 : M * 1 ≤ M * (2 ^ k * 2) := Nat.mul_le_mul_left _ (by omega)
      omega
    · obtain ⟨a, b, ha, hb, rfl⟩ := pairs_mem h1
      have h2 := ih a ha
      have h3 := ih b hb
      rw [← Nat.mul_assoc]
      omega
theorem pairs_bound {l : List Nat} {k : Nat} (h : ∀ x ∈ l, x ≤ 1099511627776 * 2 ^ k) (hk : k ≤ 15) : ∀ x ∈ pairs l, x ≤ 4611686018427387904 := fun x hx => by
  obtain ⟨a, b, ha, hb, rfl⟩ := pairs_mem hx
  have h1 := h a ha
  have h2 := h b hb
  have h3 : 1099511627776 * 2 ^ k ≤ 1099511627776 * 2 ^ 15 := Nat.mul_le_mul_left _ (Nat.pow_le_pow_right (by omega) hk)
  omega
theorem at54 : (Try.prog.info? 56).map (fun i => (i.zero, i.size, i.bytes)) = some (some (.slice none 0 0), 1, 24) := by kernel_rfl
theorem one_new (W : World) (u : Value) : ∀ j x, ([u] : List Value)[j]? = some x → (W.alloc (.cells #[u] 56)).cell? ((⟨W.heap.size, 0, none⟩ : Addr).add j) = some x := fun j x hx => by
  have hj : j < 1 := (List.getElem?_eq_some_iff.1 hx).1
  rw [Addr.add_lit, Nat.zero_add, (Blk.made W 56 #[u]).cell]
  obtain rfl : j = 0 := by omega
  exact hx
theorem grown_here {W X w5 : World} {bR base : Nat} {v : Value} {k : Nat} {vals : List Value} (h : Below bR W X) (hb : bR = W.heap.size) (h2 : Below X.heap.size X w5) (hr : W.ownsRow base 56 1 v k vals) : w5.ownsRow base 56 1 v k vals := by
  subst hb
  exact ownsRow_below (ownsRow_below hr h) h2

theorem row_len_ge (cs : List Nat) (k : Nat) : cs.length ≤ (row cs k).length := by
  cases k with
  | zero => rw [row_len0]; exact Nat.le_refl _
  | succ k => rw [row_len]; omega
/-- One row more. -/
theorem rst_put {w W X w5 w6 : World} {cs : List Nat} {k g c5 cm c7 bR : Nat} {am a7 : Option Addr} {vals : List Value} {u : Value}
    (hro : W.ownsRow w.heap.size 56 1 (.slice (some ⟨g, 0, none⟩) k c5) k vals) (hva : ∀ j, j < k → ∃ ao c, vals[j]? = some (.slice ao (row cs j).length c) ∧ RowAt W (Value.slice (some ⟨g, 0, none⟩) k c5).ownBlock ao c (row cs j))
    (hbw : Below w.heap.size w W) (hbR : bR = W.heap.size) (hbX : Below bR W X) (hbm : Below X.heap.size X w5) (hcm : CS w5 am (row cs k)) (hmr : (row cs k).length ≤ cm) (hmn : am = none → cm = 0) (hmf : ∀ b off, am = some ⟨b, off, none⟩ → X.heap.size ≤ b) (hne : row cs k ≠ [])
    (hown : w6.ownsRow w.heap.size 56 1 (.slice a7 (k + 1) c7) (k + 1) (vals ++ [.slice am (row cs k).length cm])) (hgrow : (w5.alloc (.cells #[u] 56)).grownBy w6 (Value.slice (some ⟨g, 0, none⟩) k c5).ownBlock)
    (hfresh : (Value.slice a7 (k + 1) c7).ownBlock = (Value.slice (some ⟨g, 0, none⟩) k c5).ownBlock ∨ (Value.slice a7 (k + 1) c7).ownBlock = some (w5.alloc (.cells #[u] 56)).heap.size) :
    Rst w w6 cs (k + 1) (.slice a7 (k + 1) c7) ∧ (∀ j, j < X.heap.size → j ≠ g → w6.heap[j]? = X.heap[j]?) := by
  subst hbR
  have hgl := hro.lt g rfl
  have hXW := hbX.size
  have h5 := hbm.size
  have h6 : w5.heap.size + 1 ≤ w6.heap.size := by have := hgrow.size; simpa using this
  have hblk : ∀ j, j < w5.heap.size → j ≠ g → w6.heap[j]? = w5.heap[j]? := fun j hj hjg =>
    (hgrow.block j (by simp; omega) (fun e => hjg (by simpa [Value.ownBlock] using e))).trans (Below.heap_alloc _ _ _ hj)
  have hblk2 : ∀ j, j < X.heap.size → j ≠ g → w6.heap[j]? = X.heap[j]? := fun j hj hjg => (hblk j (by omega) hjg).trans (hbm.block j hj)
  refine ⟨⟨⟨_, hown, fun j hj => ?_⟩, ?_⟩, hblk2⟩
  · have hnb : ∀ b, b < w5.heap.size → b ≠ g → (Value.slice a7 (k + 1) c7).ownBlock ≠ some b := fun b hb hbg e => by
      rcases hfresh with h | h
      · rw [h] at e; exact hbg (by simpa [Value.ownBlock] using e.symm)
      · rw [h] at e
        have := Option.some.inj e
        simp at this
        omega
    have hlen := hro.1
    by_cases e : j = k
    · subst e
      refine ⟨am, cm, ?_, ?_, hmr, hmn, fun b off hb => ?_⟩
      · rw [List.getElem?_append_right (by omega)]
        simp [hlen]
      · rcases hcm with h | ⟨b, off, rfl, hc⟩
        · exact absurd h hne
        · have h1 := hmf b off rfl
          refine .inr ⟨b, off, rfl, fun i v hv => ?_⟩
          have h2 := hc i v hv
          have h3 : b < w5.heap.size := World.block_lt_of_cell? w5 _ h2
          exact (World.cell?_of_block (hblk b h3 (by omega))).trans h2
      · have h1 := hmf b off hb
        rcases hcm with h | ⟨b', off', e', hc⟩
        · exact absurd h hne
        · have e2 : b' = b := by rw [e'] at hb; simpa using congrArg (Option.map Addr.block) hb
          have h3 : b' < w5.heap.size := World.block_lt_of_cell? w5 ⟨b', off' + 0 * 2, none⟩ (hc _ _ (cl_at (row cs j) 0 (List.length_pos_iff.2 hne)).1)
          exact ⟨by omega, hnb b (by omega) (by omega)⟩
    · obtain ⟨ao, c, h1, h2⟩ := hva j (by omega)
      refine ⟨ao, c, ?_, ?_, h2.room, h2.nil, fun b off hb => ?_⟩
      · rw [List.getElem?_append_left (by omega)]; exact h1
      · rcases h2.cs with h | ⟨b, off, rfl, hc⟩
        · exact .inl h
        · have h3 := h2.lt b off rfl
          have hbg : b ≠ g := fun e => h3.2 (by rw [e]; rfl)
          refine .inr ⟨b, off, rfl, fun i v hv => ?_⟩
          have h4 := hc i v hv
          exact (World.cell?_of_block ((hblk2 b (by omega) hbg).trans (hbX.block b h3.1))).trans h4
      · have h3 := h2.lt b off hb
        have hbg : b ≠ g := fun e => h3.2 (by rw [e]; rfl)
        exact ⟨by omega, hnb b (by omega) hbg⟩
  · have t1 := hbw.trans ((hbX.mono hbw.size).trans (hbm.mono (Nat.le_trans hbw.size hXW)))
    have t2 : Below w.heap.size w (w5.alloc (.cells #[u] 56)) := t1.alloc t1.size _
    exact t2.grown hgrow t2.size fun j e => by
      have : g = j := by simpa [Value.ownBlock] using e
      omega

set_option maxRecDepth 100000 in
set_option maxHeartbeats 8000000 in
theorem rows_any (ao : Option Addr) (c lim : Nat) (cs : List Nat) (w : World) (h : CS w ao (sg cs)) (hn : ao = none → c = 0) (hc : cs.length ≤ c) (h1 : 2 ≤ cs.length) (hl : cs.length ≤ 320) (hL : 1 ≤ lim) (hL2 : lim ≤ 15) (hM : ∀ x ∈ cs, x ≤ 1099511627776) :
    Calls Try.prog 25 #[.slice ao cs.length c, .int .i64 lim] w fun e w' => ∃ a5 c5, e = .returned (.slice a5 lim c5) ∧ Rst w w' cs lim (.slice a5 lim c5) := by
  have HI := Lib.hid h
  have HMM := Lib.hid hM
  clear h hM
  refine (callsIn_wide (n := 9)).1 ?_
  refine callsIn_of_wp_marks Try.func25 rfl trivial ?_ rfl
  simp only [Try.ntmps25, List.size_toArray, List.length_cons, List.length_nil, Nat.reduceAdd, Nat.reduceSub, Array.replicate_succ, Array.replicate_zero, List.push_toArray, List.append_toArray, List.nil_append, List.cons_append]
  gi_wp2
  have H0 : Hid (Rst w (w.alloc (.cells #[.slice ao cs.length c] 56)) cs 1 (.slice (some ⟨w.heap.size, 0, none⟩) 1 1)) := Lib.hid (rst_start HI.out hn hc h1)
  refine wpIn_loop (fun a W => ∃ (k : Nat) (ds : List Deferred) (a5 : Option Addr) (c5 : Nat) (u6 u7 u8 u11 u12 u13 u14 u15 u16 u17 u18 u19 u20 u21 u22 u23 u24 u25 u26 u27 u28 u29 u30 u31 u32 u33 u34 u35 u36 u37 u38 : Value), a = { tmps := #[.slice ao cs.length c, .int .i64 lim, undef, undef, .slice none 0 0, .slice a5 k c5, u6, u7, u8, .slice ao cs.length c, .slice (some ⟨w.heap.size, 0, none⟩) 1 1, u11, u12, u13, u14, u15, u16, u17, u18, u19, u20, u21, u22, u23, u24, u25, u26, u27, u28, u29, u30, u31, u32, u33, u34, u35, u36, u37, u38, undef], defers := ds } ∧ 1 ≤ k ∧ k ≤ lim ∧ Rst w W cs k (.slice a5 k c5) ∧ Marks w.heap.size W ds) (fun a _ => lim - slen (a.tmps.getD 5 undef)) ?start ?round
  case start => exact ⟨1, [], _, _, _, _, _, _, _, _, _, _, _, _, _, _, _, _, _, _, _, _, _, _, _, _, _, _, _, _, _, _, _, _, _, rfl, Nat.le_refl _, hL, H0.out, marks_nil _ _⟩
  case round =>
    rintro a W ⟨k, ds, a5, c5, u6, u7, u8, u11, u12, u13, u14, u15, u16, u17, u18, u19, u20, u21, u22, u23, u24, u25, u26, u27, u28, u29, u30, u31, u32, u33, u34, u35, u36, u37, u38, rfl, hk1, hk, hrst, hmk⟩
    have HR := Lib.hid hrst
    have HMK := Lib.hid hmk
    clear hrst hmk H0
    by_cases hlt : k < lim
    · have hlt' : (k : Int) < lim := by omega
      obtain ⟨g, a6, c6, rfl, q1, hat⟩ := HR.out.last hk1
      have HAT := Lib.hid hat
      have eK : IntKind.i64.wrap ((k : Int) - 1) = ((k - 1 : Nat) : Int) := by rw [IntKind.wrap_i64]; omega
      obtain ⟨k1, hk1'⟩ : ∃ k1, k1 = k - 1 := ⟨_, rfl⟩
      have HK1 := Lib.hid hk1'
      have b1 : (k1 : Int) < k := by omega
      rw [← hk1'] at eK q1
      obtain ⟨rl, hrl⟩ : ∃ rl, rl = (row cs k1).length := ⟨_, rfl⟩
      have HRL := Lib.hid hrl
      rw [hk1', ← hk1', ← hrl] at q1
      clear hat hk1' hrl
      have q1 := (((Below.refl W.heap.size W).alloc (Nat.le_refl _) (.cells #[.slice none 0 0] 56)).cell (p := ⟨g, k1, none⟩) (World.block_lt_of_cell? W _ q1)).trans q1
      gi_wp2_with (refine ⟨trivial, ?_⟩; gi_at_call 41; refine (callsIn_wide.2 (twoBy_any a6 rl c6 _)).mono ?_; rintro e w' ⟨rfl, rfl⟩)
      obtain ⟨bR, hbR⟩ : ∃ bR, bR = W.heap.size := ⟨_, rfl⟩
      have HBR := Lib.hid hbR
      have B0 := Blk.made W 56 #[.slice none 0 0]
      have B1 : Blk ((W.alloc (.cells #[.slice none 0 0] 56)).alloc (.cells #[.slice a6 rl c6] 56)) bR 56 #[.slice none 0 0] := by
        rw [hbR]
        exact B0.touch ((Touch.refl (fun _ => False) _).alloc _) (fun h => h)
      have B2 : Blk ((W.alloc (.cells #[.slice none 0 0] 56)).alloc (.cells #[.slice a6 rl c6] 56)) (bR + 1) 56 #[.slice a6 rl c6] := by
        have := Blk.made (W.alloc (.cells #[.slice none 0 0] 56)) 56 #[.slice a6 rl c6]
        rw [World.size_alloc, ← hbR] at this
        exact this
      have BW : Below bR W ((W.alloc (.cells #[.slice none 0 0] 56)).alloc (.cells #[.slice a6 rl c6] 56)) := by
        rw [hbR]; exact ((Below.refl _ W).alloc (Nat.le_refl _) _).alloc (by simp) _
      have hsz : ((W.alloc (.cells #[.slice none 0 0] 56)).alloc (.cells #[.slice a6 rl c6] 56)).heap.size = bR + 2 := by rw [hbR]; simp
      rw [← hbR]
      obtain ⟨W0, hW0⟩ : ∃ W0, (W.alloc (.cells #[.slice none 0 0] 56)).alloc (.cells #[.slice a6 rl c6] 56) = W0 := ⟨_, rfl⟩
      rw [hW0] at B1 B2 BW hsz ⊢
      clear hW0 B0 q1
      have hk11 : k1 = k - 1 := HK1.out
      have hat := HAT.out
      rw [← hk11] at hat
      have hrl : (row cs k1).length ≤ 640 := row_small cs hl k1
      have hCW : CS W0 a6 (row cs k1) := hat.cs.on (by rw [← hbR]; exact BW)
      have HSZ := Lib.hid hsz
      refine wpIn_rangeFunc_ownH rfl (by omega) (gf := 47) (lb := #[.pointer (some ⟨bR + 1, 0, none⟩)]) rfl trivial (enters_of Try.func47 (by kernel_rfl) rfl)
        (two_stops (fun k => k = bR) (9 - 1) (by omega) (bR + 1) a6 c6 (row cs k1) hrl W0 (by rw [← HRL.out]; exact B2.cell 0) (by omega) hCW (fun b off e _ hb => by have := (hat.lt b off e).1; omega)) (fun h k => h.trans k) (beb_b (Nat.le_refl _)) (Below.refl _ _) (fun _ => rfl)
        (fun pre W' => Dst bR (bR + 2) W pre W')
        (fun _ _ _ => False)
        (by rw [hsz]; exact dst_own bR (bR + 2) (by omega) W (by omega)) (fun _ _ _ _ _ hs _ _ => hs)
        ⟨⟨none, 0, B1, World.ownsRow_nil _ _ _ _⟩, BW, by omega⟩
        (fun x a' W' => ∃ B7 B8, bR + 2 ≤ B7 ∧ bR + 2 ≤ B8 ∧ Blk W' B7 77 #[.int .i64 (x.1.1 : Nat), .bool x.1.2] ∧ Blk W' B8 77 #[.int .i64 (x.2.1 : Nat), .bool x.2.2] ∧ a' = { tmps := #[.slice ao cs.length c, .int .i64 lim, undef, undef, .slice none 0 0, .slice (some ⟨g, 0, none⟩) k c5, .pointer (some ⟨bR, 0, none⟩), .pointer (some ⟨B7, 0, none⟩), .pointer (some ⟨B8, 0, none⟩), .slice ao cs.length c, .slice (some ⟨w.heap.size, 0, none⟩) 1 1, .slice (some ⟨g, 0, none⟩) k c5, .int .i64 k, .int .i64 lim, .bool true, .slice (some ⟨g, 0, none⟩) k c5, .slice (some ⟨g, 0, none⟩) k c5, .int .i64 k, .int .i64 k1, .pointer (some ⟨g, k1, none⟩), .slice a6 rl c6, .func (.func 47) #[] #[.pointer (some ⟨bR + 1, 0, none⟩)], cv x.1, cv x.2, u24, u25, u26, u27, u28, u29, u30, u31, u32, u33, u34, u35, u36, u37, u38, undef], defers := [] })
        (fun x a' s A B row hs hg hr => by
          obtain ⟨B7, B8, h7, h8, hb7, hb8, e⟩ := hs
          exact ⟨B7, B8, h7, h8, blk_kept hb7 hg (fun r e => (hr r e).2), blk_kept hb8 hg (fun r e => (hr r e).2), e⟩) ?assign ?body ?done ?stop
      case assign =>
        rintro l pre ⟨⟨x1, x2⟩, ⟨y1, y2⟩⟩ X K hI hK
        have HIx := Lib.hid hI
        have HKx := Lib.hid hK
        clear hI hK
        clear hbR hk11 hsz B1 B2 BW hat hCW hrl
        simp only [encs, cv]
        gi_wp2
        have hs := HIx.out.size
        have hbr : bR ≤ W.heap.size := by rw [HBR.out]; exact Nat.le_refl _
        have n1 := Blk.made X 77 #[.int .i64 (x1 : Nat), .bool x2]
        have n2 := Blk.made (X.alloc (.cells #[.int .i64 (x1 : Nat), .bool x2] 77)) 77 #[.int .i64 (y1 : Nat), .bool y2]
        rw [World.size_alloc] at n2
        refine HKx.out _ _ (((KeepsOthers.alloc X _).trans (KeepsOthers.alloc _ _)).from _) ?_ ((HIx.out.alloc hbr _).alloc hbr _) ⟨X.heap.size, X.heap.size + 1, hs, by omega, n1.touch ((Touch.refl (fun _ => False) _).alloc _) (fun h => h), n2, rfl⟩
        rw [HSZ.out]
        exact (beb_alloc X hs _).trans (beb_alloc _ (by simp; omega) _)
      case body =>
        rintro l pre ⟨⟨x1, x2⟩, ⟨y1, y2⟩⟩ a' X _ _ hI ⟨B7, B8, h7, h8, hb7, hb8, rfl⟩ hlt2
        have HIx := Lib.hid hI
        obtain ⟨a3, c3, hbox, hown⟩ := hI.box
        have HBX := Lib.hid hbox
        have HOW := Lib.hid hown
        have q1 := (hbox.cell 0).trans (show _ = some (.slice a3 pre.length c3) from rfl)
        have q2 := (hb7.cell 0).trans (show _ = some (.int .i64 (x1 : Nat)) from rfl)
        have q3 := (hb8.cell 0).trans (show _ = some (.int .i64 (y1 : Nat)) from rfl)
        have hbr : bR ≤ W.heap.size := by rw [HBR.out]; exact Nat.le_refl _
        have hpl : pre.length ≤ 640 := by rw [two_len] at hlt2; omega
        have hxs : bR + 2 ≤ X.heap.size := hI.size
        obtain ⟨i0, hi, hz0, hz1, hz2⟩ := info_parts at56.info
        clear hI hbox hown hbR hk11 hsz B1 B2 BW hat hCW hrl
        have q1' := q1
        gi_wp2_with (gi_at_builtin; refine wpListIn_append_own _ rfl _ _ 56 rfl (bR + 2) 77 i0 (.agg #[.int .i64 0, .bool false]) 2 16 Try.underlying56 hi hz0 hz1 hz2 rfl (by decide) (.slice a3 pre.length c3) pre.length (dcl pre) rfl (HOW.out.alloc _) ⟨X.heap.size, 0, none⟩ 1 1 [.int .i64 (wrap64 ((x1 : Int) + y1)), .bool false] rfl rfl (two_new X _ _) (by simp [Value.oneCell']) (by unfold maxLen; omega) (by omega) (by simp; omega) ?_; intro v' w1 hown' hgrow _; obtain ⟨hB1, a4, c4, rfl, hKF, hKB, hD⟩ := HIx.out.put (x := ((x1, x2), (y1, y2))) (by omega) hbr HBX.out HOW.out hown' hgrow; have g1 := (hB1.cell 0).trans (show _ = some (.slice a3 pre.length c3) from rfl); have g2 := hB1.free 0)
        exact ⟨by rw [HSZ.out]; exact hKF, by rw [HSZ.out]; exact hKB, hD⟩
      case done =>
        rintro D ys X hD hys hI hK
        have hDB : bR + 2 ≤ D := by rw [← hsz]; exact hD
        have hbr : bR ≤ W.heap.size := by rw [← hbR]; exact Nat.le_refl _
        have hbr2 : W.heap.size ≤ bR := by rw [← hbR]; exact Nat.le_refl _
        obtain ⟨a3, c3, hbox, hown⟩ := hI.box
        have hb1 := row_bound HMM.out k1
        have hsum : sums ys = pairs (cost (row cs k1)) := by rw [hys]; exact two_pairs _
        rw [dcl_eq ys (by rw [hsum]; exact pairs_bound hb1 (by omega))] at hown
        have hyl : ys.length = (pairs (cost (row cs k1))).length := by rw [← hsum]; simp [sums]
        rw [hsum, hyl] at hown
        rw [hyl] at hbox
        obtain ⟨dd, hdd⟩ : ∃ dd, dd = pairs (cost (row cs k1)) := ⟨_, rfl⟩
        have HDD := Lib.hid hdd
        rw [← hdd] at hown hbox
        have hdl : dd.length ≤ 320 := by rw [hdd, pairs_len, cost_len]; omega
        have hrm := own_room hown
        have hcd : CS X a3 (db dd) := own_cs hown (db_len dd)
        have hcs : CS X ao (sg cs) := HI.out.on (HR.out.below.trans (hI.below.mono (Nat.le_trans HR.out.below.size hbr2)))
        have HMG := Lib.hid (merged_any ao a3 c c3 cs dd X hcs hcd hl hdl hrm.1 hrm.2)
        have q1 := (hbox.cell 0).trans (show _ = some (.slice a3 dd.length c3) from rfl)
        have HX := Lib.hid hI.below
        have HKD := Lib.hid hK
        have hgd : Hid (∀ j, W.heap[j]? = some (.deferred (some [])) → j ≠ g) := Lib.hid fun j hj e => by
          have h1 := HR.out.own
          obtain ⟨vals, ho, _⟩ := h1
          rcases ho.2 with ⟨h0, _⟩ | ⟨g', cap, cur, h0, _, hh, _⟩
          · cases h0
          · simp only [Value.slice.injEq, Option.some.injEq, Addr.mk.injEq] at h0
            rw [← h0.1.1, ← e, hj] at hh
            cases hh
        have hgl : Hid (g < bR) := Lib.hid (by
          obtain ⟨vals, ho, _⟩ := HR.out.own
          have := (ho.lt g rfl).2
          omega)
        have hXs := (Array.getElem?_eq_some_iff.1 hK).1
        have HN : Hid (w.heap.size ≤ bR) := Lib.hid (Nat.le_trans HR.out.below.size hbr2)
        obtain ⟨vals, hrow, hvals⟩ := HR.out.own
        have HRO := Lib.hid hrow
        have HVA := Lib.hid hvals
        obtain ⟨i0, hi, hz0, hz1, hz2⟩ := info_parts at54
        clear hI hbox hown hbR hk11 hsz B1 B2 BW hat hCW hrl hdd hsum hyl hys hb1 hcd hcs hK hrow hvals hbr hbr2
        gi_wp2_with (first
          | (refine ⟨trivial, ?_⟩; gi_at_call 42; refine (callsIn_wide.2 HMG.out).mono ?_; rintro e w5 ⟨am, cm, rfl, hcm, hbm, hmr, hmn, hmf⟩; have hgv := grown_here HX.out HBR.out hbm HRO.out)
          | (gi_at_builtin; go_loud (refine wpListIn_append_own_at _ rfl _ _ 54 rfl w.heap.size 56 i0 (.slice none 0 0) 1 24 Try.underlying54 hi hz0 hz1 hz2 rfl (by decide) (.slice (some ⟨g, 0, none⟩) k c5) k vals rfl (hgv.alloc _) ⟨w5.heap.size, 0, none⟩ 1 1 [.slice am (mrg cs dd).length cm] rfl rfl (one_new w5 _) (by simp [Value.oneCell']) (by unfold maxLen; omega) (by omega) (by simp; have := hgv.lt g (by simp [Value.ownBlock]); omega) ?_); intro v' w6 hown' hgrow _ hfresh; obtain ⟨a7, c7, rfl⟩ := own_shape hown'))
        have heq : mrg cs dd = row cs k := by
          have h2 := HK1.out
          rw [HDD.out, ← row_s, show k1 + 1 = k by omega]
        have hne : row cs k ≠ [] := fun e => by
          have := row_len_ge cs k
          rw [e, List.length_nil] at this
          omega
        rw [heq] at hcm hmr hown'
        have hfin := rst_put HRO.out HVA.out HR.out.below HBR.out HX.out hbm hcm hmr hmn hmf hne hown' hgrow hfresh
        refine ⟨⟨k + 1, mk D :: ds, a7, c7, _, _, _, _, _, _, _, _, _, _, _, _, _, _, _, _, _, _, _, _, _, _, _, _, _, _, _, _, _, _, _, rfl, by omega, by omega, hfin.1, ?_⟩, ?_⟩
        · have hXb := HX.out.size
          refine HMK.out.add (fun j hj hj2 => (hfin.2 j (by omega) (hgd.out j hj2)).trans (HX.out.block j (by rw [HBR.out]; exact hj))) (by rw [← HBR.out]; omega) (by have := HN.out; omega) ((hfin.2 D hXs (by have := hgl.out; omega)).trans HKD.out)
        · show lim - (k + 1) < lim - k
          omega
      case stop =>
        rintro D c pre W' _ _ h _
        exact h.elim
    · have hke : k = lim := by omega
      subst hke
      gi_wp2
      refine leave_marks (n0 := w.heap.size) (v := .slice a5 k c5) (fun W' => (results_tmp (fn := Try.f25) (t := 4) rfl _ _ W').trans rfl) (fun W' => Rst w W' cs k (.slice a5 k c5)) (fun W' D hR hD hK => hR.put_mark hD hK) (fun W' hR => ⟨a5, c5, rfl, hR⟩) ds W HMK.out HR.out
end Go.Proofs.Ytccfbkbfmkdapaa
