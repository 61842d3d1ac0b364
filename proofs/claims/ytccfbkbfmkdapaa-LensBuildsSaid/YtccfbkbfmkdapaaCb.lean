/-
  Contract of merged.
-/
import Derived.Test.YtccfbkbfmkdapaaCa
namespace Go.Proofs.Ytccfbkbfmkdapaa
open Go.RowKit

theorem at56 : AT 56 77 (.agg #[.int .i64 0, .bool false]) 2 16 := ⟨by kernel_rfl, by kernel_rfl, rfl, by omega⟩

theorem step_append_g {t e : Nat} {z : Value} {size bytes : Nat} (T : AT t e z size bytes) {ops : Array Oper} {o : Oper} {a : Act} {w : World} {K : Act → World → Prop} {Q : Exit → Act → World → Prop} {E : Prop}
    (hg : o.guard = none) (s x : Operand) (hop : o.op = Op.call { callee := Callee.builtin Builtin.append, args := #[s, x], argTypes := #[t, t] })
    (base : Nat) (v sv : Value) (n m : Nat) (xs ys : List Value) (hs : a.eval s = v) (hx : a.eval x = sv) (hown : w.ownsRow base e size v n xs) (hsrc : CellsAt w sv m ys)
    (hyl : ys.length = m * size) (h1 : ∀ u ∈ ys, u.oneCell' = true) (hbase : base ≤ w.heap.size) (hl : n + m ≤ 140737488355328) (hby : (n + m) * bytes ≤ 140737488355328)
    (hK : ∀ ao c w', Apg w base e size v (n + m) (xs ++ ys) (.slice ao (n + m) c) w' → K (a.put o.dst (.slice ao (n + m) c)) w') :
    if Region.wanted o (yielded ops a.tmps) = true then Oper.wp Try.prog o a w K Q else E := by
  have hw : Region.wanted o (yielded ops a.tmps) = true := by simp [Region.wanted, hg]
  rw [if_pos hw]
  obtain ⟨v', w', hrun, hA⟩ := run_append_g T w o.type hown hsrc hyl h1 hbase hl hby
  obtain ⟨ao, c, rfl⟩ := own_shape hA.own
  unfold Oper.wp
  simp [execOp, hop, resolve, invoke, builtin, hs, hx, hrun, Result.andThen]
  exact hK ao c w' hA

/-- A slice that is made with room: it is owned. -/
theorem wpList_make_room {P : Program} {ops : Array Oper} {rest : List Oper} {o : Oper} {a : Act} {w : World} {Q : Exit → Act → World → Prop} (hgd : o.guard = none) (t : TypeId) (l c : Operand) (ho : o.op = .makeSlice t l c) (e : TypeId) (z : Value) (size bytes n : Nat) (hu : P.underlying t = some (.slice e))
    (hin : (P.info? e).map (fun i => (i.zero, i.size, i.bytes)) = some (some z, size, bytes)) (kl kc : IntKind) (C : Int) (hl : a.eval l = .int kl 0) (hc : a.eval c = .int kc C) (hC : C = n) (hb : bytes * n ≤ 281474976710656) (hm : n ≤ maxLen)
    (h : ∀ W, W.ownsRow w.heap.size e size (.slice (some ⟨w.heap.size, 0, none⟩) 0 n) 0 [] → Touch (fun _ => False) w W → W.heap.size = w.heap.size + 1 → wpList P ops Q rest (a.put o.dst (.slice (some ⟨w.heap.size, 0, none⟩) 0 n)) W) : wpList P ops Q (o :: rest) a w := by
  subst hC
  obtain ⟨i, hi, hz0, hz1, hz2⟩ := info_parts hin
  have h63 : n ≤ 9223372036854775807 := Nat.le_trans hm (by unfold maxLen; omega)
  have hr := run_make (P := P) w t e i z hu hi hz0 kl kc 0 n (by omega) (by omega) (by rw [hz2]; omega) (by omega)
  rw [Int.toNat_natCast, hz1] at hr
  refine wpList_plain hgd fun K hK => ?_
  unfold Oper.wp execOp
  simp only [ho, hl, hc, Sem.run_bind, Sem.run_pure, hr, Result.andThen_ok]
  exact hK _ _ (h _ (World.ownsRow_made w _ n (Nat.le_refl _) hm (by simp [madeCells])) ((Touch.refl _ w).alloc _) (by simp))

/-- One coin in a block of its own, as append wants it. -/
theorem cells_coin (w : World) (B : Nat) (hB : w.heap.size = B) (e : TypeId) (x : Nat × Bool) : CellsAt (w.alloc (.cells #[.int .i64 (x.1 : Nat), .bool x.2] e)) (.slice (some ⟨B, 0, none⟩) 1 1) 1 (cl [x]) := by
  subst hB
  refine .inr ⟨_, 1, rfl, fun j u hu => ?_⟩
  rw [Addr.add_lit, Nat.zero_add, (Blk.made w e _).cell]
  have : j < 2 := by
    have := (List.getElem?_eq_some_iff.1 hu).1
    simpa [cl] using this
  rcases (by omega : j = 0 ∨ j = 1) with rfl | rfl
  · simpa [cl] using hu
  · simpa [cl] using hu

/-- A row of coins of the call's own. -/
structure Mr (w : World) (P : List (Nat × Bool)) (v : Value) (wr : World) : Prop where
  own : wr.ownsRow w.heap.size 77 2 v P.length (cl P)
  below : Below w.heap.size w wr
theorem Mr.put {w wr w1 : World} {P R : List (Nat × Bool)} {v v' : Value} {n : Nat} (h : Mr w P v wr) (hA : Apg wr w.heap.size 77 2 v n (cl P ++ cl R) v' w1) (hn : n = P.length + R.length) : Mr w (P ++ R) v' w1 := by
  subst hn
  refine ⟨?_, h.below.trans (hA.below h.own h.below.size)⟩
  rw [List.length_append, ← cl_app]
  exact hA.own
theorem Mr.alloc {w wr : World} {P : List (Nat × Bool)} {v : Value} (h : Mr w P v wr) (o : Obj) : Mr w P v (wr.alloc o) :=
  ⟨World.ownsRow.alloc h.own o, h.below.alloc h.below.size o⟩
theorem Mr.drewN {w wr : World} {P : List (Nat × Bool)} {v : Value} (h : Mr w P v wr) (q : Nat) : Mr w P v (wr.drewN q) := ⟨h.own, below_drewN h.below q⟩
theorem Mr.drew {w wr : World} {P : List (Nat × Bool)} {v : Value} (h : Mr w P v wr) : Mr w P v wr.drew := ⟨h.own, below_drew h.below⟩

def sg (l : List Nat) : List (Nat × Bool) := l.map fun c => (c, true)
def db (l : List Nat) : List (Nat × Bool) := l.map fun c => (c, false)
theorem sg_len (l : List Nat) : (sg l).length = l.length := by simp [sg]
theorem db_len (l : List Nat) : (db l).length = l.length := by simp [db]

/-- How long a slice is. -/
def slen (v : Value) : Nat := match v with | .slice _ l _ => l | _ => 0
theorem slen_slice (a : Option Addr) (l c : Nat) : slen (.slice a l c) = l := rfl
theorem elem56 : Try.prog.elem 56 = 77 := by simp [Program.elem, Try.underlying56]
theorem ht56 : Try.prog.underlying 56 = some (.slice (Try.prog.elem 56)) := by rw [elem56]; exact Try.underlying56
theorem size77 (W : World) : (sizeOf 77).run Try.prog W = .ok 2 W := by
  obtain ⟨i0, hi, hz0, hz1, hz2⟩ := info_parts at56.info
  simp [sizeOf, typeInfo, hi, hz1]
/-- Where coins lie that are cut off. -/
def cut2 (ao : Option Addr) (c a : Nat) : Option Addr := if c = a then ao else ao.map (·.add (a * 2))
theorem slice1_56 (ao : Option Addr) (len c : Nat) (hab : 1 ≤ len) (W : World) :
    (Instr.slice 56 (.slice ao len c) (some (.int .i64 1)) none none).run Try.prog W = .ok (.slice (cut2 ao c 1) (len - 1) (c - 1)) W := by
  rw [run_slice_l W 56 ao len c ht56 .i64 _ (by omega) (by omega), elem56, size77]
  rfl
theorem slice_h56 (ao : Option Addr) (len c b : Nat) (hbc : b ≤ c) (W : World) :
    (Instr.slice 56 (.slice ao len c) none (some (.int .i64 (b : Int))) none).run Try.prog W = .ok (.slice ao b c) W := by
  rw [run_slice_h W 56 ao len c ht56 .i64 _ (by omega) (by omega), elem56, size77]
  cases ao <;> simp [Result.andThen, sliced, Addr.add]
theorem CS.tail {w : World} {ao : Option Addr} {x : Nat × Bool} {r : List (Nat × Bool)} (h : CS w ao (x :: r)) (c : Nat) (hc : r.length + 1 ≤ c) : CS w (cut2 ao c 1) r := by
  rcases h with h | ⟨b, off, rfl, hr⟩
  · cases h
  · by_cases e : r = []
    · exact .inl e
    · refine .inr ⟨b, off + 2, ?_, fun j v hv => ?_⟩
      · have : 0 < r.length := List.length_pos_iff.2 e
        unfold cut2
        rw [if_neg (by omega)]
        simp [Addr.add]
      · have := hr (j + 2) v (by rw [cl_cons, List.getElem?_cons_succ, List.getElem?_cons_succ]; exact hv)
        rwa [show off + (j + 2) = off + 2 + j by omega] at this

theorem Apg.undrew {a b : World} {base e sz n : Nat} {v1 v2 : Value} {xs : List Value} (k : Apg a.drew base e sz v1 n xs v2 b) : Apg a base e sz v1 n xs v2 b :=
  ⟨k.own, ((Touch.refl _ a).drew).trans k.touch, k.row⟩
/-- Behind an append another block is as it was. -/
theorem mr_put {w w2 w3 : World} {P R : List (Nat × Bool)} {v v' : Value} {B n t : Nat} {cs : Array Value} {o : Obj} (H : Mr w P v w2) (HB : Blk w2 B t cs) (hne : v.ownBlock ≠ some B)
    (hA : Apg (w2.alloc o) w.heap.size 77 2 v n (cl P ++ cl R) v' w3) (hn : n = P.length + R.length) : Mr w (P ++ R) v' w3 ∧ Blk w3 B t cs ∧ v'.ownBlock ≠ some B := by
  refine ⟨(H.alloc o).put hA hn, ?_, fun e => ?_⟩
  · exact (HB.touch ((Touch.refl (fun _ => False) w2).alloc o) (fun h => h)).touch hA.touch hne
  · rcases hA.row B e with h | h
    · exact hne h
    · have := HB.lt
      simp at h
      omega

theorem own_cs {w : World} {base : Nat} {ao : Option Addr} {c n : Nat} {r : List (Nat × Bool)} (h : w.ownsRow base 77 2 (.slice ao n c) n (cl r)) (hn : r.length = n) : CS w ao r := by
  subst hn
  rcases h.2 with ⟨e, h0⟩ | ⟨g, cap, cur, e, hbg, hh, hnc, hcm, hcs, htake⟩
  · exact .inl (List.eq_nil_of_length_eq_zero h0)
  · simp only [Value.slice.injEq] at e
    obtain ⟨rfl, _, rfl⟩ := e
    refine .inr ⟨g, 0, rfl, fun j v hv => ?_⟩
    have hj : j < r.length * 2 := by
      have := (List.getElem?_eq_some_iff.1 hv).1
      rwa [cl_len] at this
    rw [Nat.zero_add, World.ownsRow.cellAt h j (by omega), hv]
theorem own_room {w : World} {base e size n c : Nat} {ao : Option Addr} {xs : List Value} (h : w.ownsRow base e size (.slice ao n c) n xs) : n ≤ c ∧ (ao = none → c = 0) := by
  rcases h.2 with ⟨e, h0⟩ | ⟨g, cap, cur, e, hbg, hh, hnc, hcm, hcs, htake⟩
  · simp only [Value.slice.injEq] at e
    exact ⟨by omega, fun _ => e.2.2⟩
  · simp only [Value.slice.injEq] at e
    obtain ⟨rfl, _, rfl⟩ := e
    exact ⟨hnc, fun h => by cases h⟩
theorem CS.cells {w : World} {ao : Option Addr} {r : List (Nat × Bool)} {c : Nat} (h : CS w ao r) (hn : ao = none → c = 0) : CellsAt w (.slice ao r.length c) r.length (cl r) := by
  rcases h with rfl | ⟨b, off, rfl, hc⟩
  · cases ao with
    | none => exact .inl ⟨by rw [hn rfl]; rfl, rfl, rfl⟩
    | some ad => exact .inr ⟨ad, c, rfl, fun j u hu => by simp [cl] at hu⟩
  · exact .inr ⟨_, c, rfl, fun j u hu => by rw [Addr.add_lit]; exact hc j u hu⟩

set_option maxHeartbeats 4000000 in
theorem merged_any (ao bo : Option Addr) (c e : Nat) (cs ds : List Nat) (w : World) (h : CS w ao (sg cs)) (hd : CS w bo (db ds)) (hl : cs.length ≤ 320) (hl2 : ds.length ≤ 320) (hde : ds.length ≤ e) (hbn : bo = none → e = 0) :
    Calls Try.prog 42 #[.slice ao cs.length c, .slice bo ds.length e] w (CoinsOf (mrg cs ds) w) := by
  have HI := Lib.hid h
  have HD := Lib.hid hd
  clear h hd
  obtain ⟨n, hn⟩ : ∃ n, n = cs.length + ds.length := ⟨_, rfl⟩
  have HN := Lib.hid hn
  have hn1 : n ≤ 640 := by omega
  have en : IntKind.i64.wrap ((cs.length : Int) + ds.length) = n := by rw [IntKind.wrap_i64]; omega
  clear hn
  go_enter Try.func42, Try.ntmps42
  go_wp2_with (refine wpList_make_room rfl 56 _ (.tmp 12) rfl 77 (.agg #[.int .i64 0, .bool false]) 2 16 n (by kernel_rfl) (by kernel_rfl) .i64 .i64 n rfl rfl rfl (by omega) (by unfold maxLen; omega) ?_; intro W hb ht hs; have HS := Lib.hid hs; clear hs)
  clear en
  have H0 : Hid (Mr w [] (.slice (some ⟨w.heap.size, 0, none⟩) 0 n) W) := Lib.hid ⟨hb, ht.none_below⟩
  clear hb ht
  go_loopw [1, 5, 16] (fun s1 s5 s16 wr => ∃ (k : Nat) (rest : List Nat) (P : List (Nat × Bool)) (a1 a5 : Option Addr) (c1 c5 : Nat), s1 = .slice a1 rest.length c1 ∧ s5 = .slice a5 P.length c5 ∧ s16 = .int .i64 k ∧ k ≤ cs.length ∧ rest.length ≤ ds.length ∧ rest.length ≤ c1 ∧ (a1 = none → c1 = 0) ∧ CS w a1 (db rest) ∧ Mr w P (.slice a5 P.length c5) wr ∧ P ++ mrg (cs.drop k) rest = mrg cs ds) (fun _ _ s16 _ => cs.length - (intOf s16).toNat)
  case atStart => exact ⟨0, ds, [], bo, _, e, n, rfl, rfl, rfl, Nat.zero_le _, Nat.le_refl _, hde, hbn, HD.out, H0.out, by rw [List.nil_append, List.drop_zero]⟩
  case round =>
    obtain ⟨k, rest, P, a1, a5, c1, c5, rfl, rfl, rfl, hk, hr, hrc, hnn, hcs, hm, hq⟩ := hrel
    have HC := Lib.hid hcs
    have HM := Lib.hid hm
    have HQ := Lib.hid hq
    clear hcs hm hq H0
    by_cases hlt : k < cs.length
    · have hkk : (k : Int) < cs.length := by omega
      obtain ⟨b1, o1, rfl, q1, q2⟩ := (HI.out.on HM.out.below).at (k := k) (by rw [sg_len]; exact hlt)
      obtain ⟨x, hx⟩ : ∃ x, x = cs.getD k 0 := ⟨_, rfl⟩
      have ex : cn' (sg cs) k = (x, true) := by rw [hx]; simp [cn', sg, List.getD, hlt]
      rw [ex] at q1 q2
      have HX : Hid (cs.drop k = x :: cs.drop (k + 1)) := Lib.hid (by rw [List.drop_eq_getElem_cons hlt, hx]; simp [List.getD, hlt])
      clear ex hx
      go_wp2
      obtain ⟨B, hB⟩ : ∃ B, B = wr.heap.size := ⟨_, rfl⟩
      have H1 : Hid (Mr w P (.slice a5 P.length c5) (wr.alloc (.cells #[.int .i64 (x : Nat), .bool true] 77)) ∧ Blk (wr.alloc (.cells #[.int .i64 (x : Nat), .bool true] 77)) B 77 #[.int .i64 (x : Nat), .bool true] ∧ (Value.slice a5 P.length c5).ownBlock ≠ some B) := Lib.hid ⟨HM.out.alloc _, by rw [hB]; exact Blk.made _ _ _, fun e => by
        have := (HM.out.own.lt B e).2
        omega⟩
      rw [← hB]
      generalize wr.alloc (.cells #[.int .i64 (x : Nat), .bool true] 77) = w1 at H1 ⊢
      clear HM hB q1 q2
      go_loopw [1, 5] (fun s1 s5 wr2 => ∃ (rest : List Nat) (P : List (Nat × Bool)) (a1 a5 : Option Addr) (c1 c5 : Nat), s1 = .slice a1 rest.length c1 ∧ s5 = .slice a5 P.length c5 ∧ rest.length ≤ ds.length ∧ rest.length ≤ c1 ∧ (a1 = none → c1 = 0) ∧ CS w a1 (db rest) ∧ P ++ mrg (cs.drop k) rest = mrg cs ds ∧ Mr w P (.slice a5 P.length c5) wr2 ∧ Blk wr2 B 77 #[.int .i64 (x : Nat), .bool true] ∧ (Value.slice a5 P.length c5).ownBlock ≠ some B) (fun s1 _ _ => slen s1)
      case atStart => exact ⟨rest, P, a1, a5, c1, c5, rfl, rfl, hr, hrc, hnn, HC.out, HQ.out, H1.out⟩
      case round =>
        clear HC HQ H1 hr hrc hnn
        obtain ⟨rest, P, a1, a5, c1, c5, rfl, rfl, hr, hrc, hnn, hcs, hq, hm, hbk, hne⟩ := hrel
        have HC := Lib.hid hcs
        have HQ := Lib.hid hq
        have HM := Lib.hid hm
        have HBK := Lib.hid hbk
        have HNE := Lib.hid hne
        have g1 := (hbk.cell 0).trans (show _ = some (.int .i64 (x : Nat)) from rfl)
        have g2 := (hbk.cell 1).trans (show _ = some (.bool true) from rfl)
        have hPl : P.length ≤ 640 := by
          have := congrArg List.length hq
          rw [List.length_append, mrg_len] at this
          rw [mrg_len] at this
          have := HN.out
          omega
        clear hcs hq hm hbk hne
        cases rest with
        | nil =>
          have hd0 : decide ((0 : Int) < ((([] : List Nat).length : Nat) : Int)) = false := by simp
          go_wp2
          go_quiet (fail)
          have HM2 := Lib.hid (HM.out.drewN nq)
          have HBK2 := Lib.hid (HBK.out.drewN nq)
          clear HM HBK g1 g2
          generalize wr.drewN nq = w2 at HM2 HBK2 ⊢
          have g1 := (HBK2.out.cell 0).trans (show _ = some (.int .i64 (x : Nat)) from rfl)
          have g2 := (HBK2.out.cell 1).trans (show _ = some (.bool true) from rfl)
          go_wp2_with (refine wpList_append_g at56 rfl (.tmp 40) (.tmp 42) rfl w.heap.size (.slice a5 P.length c5) (.slice (some ⟨w2.heap.size, 0, none⟩) 1 1) P.length 1 (cl P) (cl [(x, true)]) rfl rfl (World.ownsRow.alloc (w := w2) HM2.out.own _) (cells_coin w2 _ rfl 77 (x, true)) rfl (cl_one _) (by simp; have := HM2.out.below.size; omega) (by omega) (by omega) ?_; intro ao2 cc2 w3 hA; have H3 := Lib.hid (mr_put HM2.out HBK2.out HNE.out hA rfl); clear hA)
          go_roundw
          case rel =>
            refine ⟨k + 1, [], P ++ [(x, true)], a1, ao2, c1, cc2, rfl, by rw [List.length_append]; rfl, by go_num, by omega, hr, hrc, hnn, HC.out, by rw [List.length_append]; exact H3.out.1, ?_⟩
            have := HQ.out
            rw [HX.out, mrg_nil, List.map_cons, ← mrg_nil] at this
            rw [← this, List.append_assoc]; rfl
          case measure => simp [intOf]; omega
        | cons d rest =>
          obtain ⟨b2, o2, rfl, q3, q4⟩ := (HC.out.on HM.out.below).at (k := 0) (by rw [db_len, List.length_cons]; omega)
          rw [show cn' (db (d :: rest)) 0 = (d, false) from rfl, Nat.zero_mul, Nat.add_zero] at q3 q4
          rw [List.length_cons] at hr hrc ⊢
          obtain ⟨rl, hrl⟩ : ∃ rl, rl = rest.length := ⟨_, rfl⟩
          have HRL := Lib.hid hrl
          rw [← hrl] at hr hrc ⊢
          clear hrl
          have hpos : ((0 : Int) < ((rl + 1 : Nat) : Int)) := by omega
          by_cases hdx : d < x
          · have hdx' : (d : Int) < x := by omega
            go_wp2
            go_quiet (fail)
            have HM2 := Lib.hid (HM.out.drewN nq)
            have HBK2 := Lib.hid (HBK.out.drewN nq)
            clear HM HBK g1 g2 q3 q4
            generalize wr.drewN nq = w2 at HM2 HBK2 ⊢
            obtain ⟨b3, o3, e3, q3, q4⟩ := (HC.out.on HM2.out.below).at (k := 0) (by rw [db_len, List.length_cons]; omega)
            obtain ⟨rfl, rfl⟩ : b2 = b3 ∧ o2 = o3 := by simpa using e3
            rw [show cn' (db (d :: rest)) 0 = (d, false) from rfl, Nat.zero_mul, Nat.add_zero] at q3 q4
            clear e3
            have hsl := slice1_56 (some ⟨b2, o2, none⟩) (rl + 1) c1 (by omega)
            rw [Nat.add_sub_cancel] at hsl
            obtain ⟨A, hA0⟩ : ∃ A, A = cut2 (some ⟨b2, o2, none⟩) c1 1 := ⟨_, rfl⟩
            have HA := Lib.hid hA0
            rw [← hA0] at hsl
            clear hA0
            go_wp2
            go_region_law (refine step_append_g at56 rfl (.tmp 32) (.tmp 36) rfl w.heap.size (.slice a5 P.length c5) (.slice (some ⟨w2.heap.size, 0, none⟩) 1 1) P.length 1 (cl P) (cl [(d, false)]) (by simp [Act.eval]) (by simp [Act.eval]) (World.ownsRow.alloc (w := w2) HM2.out.own _) (cells_coin w2 _ rfl 77 (d, false)) rfl (cl_one _) (by simp; have := HM2.out.below.size; omega) (by omega) (by omega) ?_; intro ao2 cc2 w3 hA)
            have H3 := Lib.hid (mr_put HM2.out HBK2.out HNE.out hA.undrew rfl)
            go_simp
            clear hA HM2 HBK2 q3 q4
            go_wp2_with fail
            go_roundw
            case rel =>
              refine ⟨rest, P ++ [(d, false)], A, ao2, c1 - 1, cc2, by rw [HRL.out], by rw [List.length_append]; rfl, by rw [← HRL.out]; omega, by rw [← HRL.out]; omega, ?_, ?_, ?_, by rw [List.length_append]; exact H3.out⟩
              · rw [HA.out]; unfold cut2; intro h0; split at h0 <;> simp at h0
              · rw [HA.out]; exact HC.out.tail c1 (by rw [List.length_map, ← HRL.out]; omega)
              · have := HQ.out
                rw [HX.out, mrg_lt _ _ hdx, ← HX.out] at this
                rw [← this, List.append_assoc]; rfl
            case measure => simp [slen_slice]
          · have hdx' : (x : Int) ≤ d := by omega
            go_wp2
            go_quiet (fail)
            have HM2 := Lib.hid (HM.out.drewN nq)
            have HBK2 := Lib.hid (HBK.out.drewN nq)
            clear HM HBK g1 g2 q3 q4
            generalize wr.drewN nq = w2 at HM2 HBK2 ⊢
            have g1 := (HBK2.out.cell 0).trans (show _ = some (.int .i64 (x : Nat)) from rfl)
            have g2 := (HBK2.out.cell 1).trans (show _ = some (.bool true) from rfl)
            go_wp2_with (refine wpList_append_g at56 rfl (.tmp 40) (.tmp 42) rfl w.heap.size (.slice a5 P.length c5) (.slice (some ⟨w2.heap.size, 0, none⟩) 1 1) P.length 1 (cl P) (cl [(x, true)]) rfl rfl (World.ownsRow.alloc (w := w2) HM2.out.own _) (cells_coin w2 _ rfl 77 (x, true)) rfl (cl_one _) (by simp; have := HM2.out.below.size; omega) (by omega) (by omega) ?_; intro ao2 cc2 w3 hA; have H3 := Lib.hid (mr_put HM2.out HBK2.out HNE.out hA rfl); clear hA)
            go_roundw
            case rel =>
              refine ⟨k + 1, d :: rest, P ++ [(x, true)], some ⟨b2, o2, none⟩, ao2, c1, cc2, by rw [List.length_cons, HRL.out], by rw [List.length_append]; rfl, by go_num, by omega, by rw [List.length_cons, ← HRL.out]; omega, by rw [List.length_cons, ← HRL.out]; omega, (fun h0 => by cases h0), HC.out, by rw [List.length_append]; exact H3.out.1, ?_⟩
              have := HQ.out
              rw [HX.out, mrg_ge _ _ hdx] at this
              rw [← this, List.append_assoc]; rfl
            case measure => simp [intOf]; omega
    · have hk' : k = cs.length := by omega
      subst hk'
      have HSR := Lib.hid ((HC.out.on HM.out.below).cells hnn)
      rw [db_len] at HSR
      have hPl : P.length + rest.length ≤ 1280 := by
        have := congrArg List.length HQ.out
        rw [List.length_append, mrg_len, mrg_len] at this
        have := HN.out
        omega
      go_wp2_with (refine wpList_append_g at56 rfl (.tmp 45) (.tmp 46) rfl w.heap.size (.slice a5 P.length c5) (.slice a1 rest.length c1) P.length rest.length (cl P) (cl (db rest)) rfl rfl HM.out.own HSR.out (by rw [cl_len, db_len]) (cl_one _) HM.out.below.size (by omega) (by omega) ?_; intro ao2 cc2 w3 hA; have H3 := Lib.hid (HM.out.put (R := db rest) hA (by rw [db_len])); clear hA)
      go_ret
      have hq2 := HQ.out
      rw [List.drop_length, mrg] at hq2
      have hown := H3.out.own
      rw [List.length_append, db_len] at hown
      have hrm := own_room hown
      refine ⟨ao2, cc2, ?_, ?_, H3.out.below, ?_, hrm.2, fun b off e => (hown.lt b (by rw [e]; rfl)).1⟩
      · rw [← hq2, List.length_append, List.length_map]; rfl
      · rw [← hq2]
        exact own_cs hown (by rw [List.length_append, List.length_map])
      · rw [← hq2, List.length_append, List.length_map]; exact hrm.1
end Go.Proofs.Ytccfbkbfmkdapaa
