import Derived.Test.YtnnkegpnjedneaaDoorX14
import Derived.Test.YtnnkegpnjedneaaDoorX15
import Derived.Test.YtnnkegpnjedneaaDoorX9
/-
  Toward the reference's Inflate: no piece of a block counts blocks; a block in one piece; the row of bits.
-/
namespace Go.Proofs.YtnnkegpnjedneaaDoor
open Go.RowKit
set_option maxRecDepth 100000

section
variable {α β : Type} {bs : List Nat} {lim : Nat}
/-- It leaves the count of blocks as it is. -/
def Kp (f : Sta → Res α) : Prop := ∀ s a s', f s = .ok a s' → s'.blocks = s.blocks
theorem Kp.bind {f : Sta → Res α} {k : α → Sta → Res β} (h : Kp f) (hk : ∀ a, Kp (k a)) : Kp fun s => (f s).bind k := by
  intro s b t hb
  obtain ⟨a, s', h1, h2⟩ := Res.bind_is hb
  rw [hk a s' b t h2, h s a s' h1]
theorem Kp.run {L : Nat} {f : α → Sta → Res (Bool × α)} (h : ∀ a, Kp (f a)) (a : α) : Kp (run L f a) := by
  have key : ∀ n a, Kp (iter f n a) := by
    intro n
    induction n with
    | zero => intro a s b t hb; cases hb
    | succ n ih =>
      intro a s b t hb
      unfold iter at hb
      obtain ⟨x, s', h1, h2⟩ := Res.bind_is hb
      split at h2
      · cases h2; exact h a s x _ h1
      · rw [ih _ s' b t h2, h a s x s' h1]
  exact fun s b t hb => key _ a s b t hb
theorem rdN_kp (n : Nat) : Kp (rdN bs n) := fun s a s' h => by obtain ⟨_, _, rfl⟩ := rdN_is h; rfl
theorem rdS_kp (ls : List Nat) : Kp (rdS bs ls) := fun s a s' h => by obtain ⟨_, _, _, rfl⟩ := rdS_is h; rfl
theorem grown_kp (o : Option (Nat × Nat)) : Kp (grown bs o) := by
  cases o with
  | none => intro s a s' h; cases h
  | some x => exact (rdN_kp x.2).bind fun v s a s' h => by cases h; rfl
theorem again_kp (ol : List Nat) (y : Nat) : Kp (again bs lim ol y) := by
  refine (grown_kp _).bind fun n => (rdS_kp ol).bind fun d => (grown_kp _).bind fun far s a s' h => ?_
  split at h
  · cases h
  · split at h
    · cases h
    · cases h; rfl
theorem sym1_kp (fl ol : List Nat) (u : Unit) : Kp (sym1 bs lim fl ol u) := by
  refine (rdS_kp fl).bind fun y s a s' h => ?_
  split at h
  · split at h
    · cases h
    · cases h; rfl
  · split at h
    · cases h; rfl
    · obtain ⟨_, s2, h1, h2⟩ := Res.bind_is h
      cases h2
      exact again_kp (lim := lim) ol y { s with steps := s.steps + 1 } _ _ h1
theorem syms_kp (fl ol : List Nat) : Kp (syms bs lim fl ol) := Kp.run (sym1_kp fl ol) ()
theorem stored_kp : Kp (stored bs lim) := by
  intro s a s' h
  obtain ⟨n, s1, h1, h⟩ := Res.bind_is h
  obtain ⟨m, s2, h2, h⟩ := Res.bind_is h
  have k1 := rdN_kp 16 _ _ _ h1
  have k2 := rdN_kp 16 _ _ _ h2
  split at h
  · cases h
  · split at h
    · cases h
    · split at h
      · cases h
      · cases h
        exact k2.trans k1
theorem itm_kp (own : List Nat) : Kp (itm bs own) := by
  refine (rdS_kp own).bind fun y s a s' h => ?_
  split at h
  · exact (rdN_kp (xb y)).bind (k := fun v s2 => .ok (y, v) s2) (fun v s a s' h => by cases h; rfl) s a s' h
  · cases h; rfl
theorem len1_kp (own : List Nat) (n : Nat) (row : List Nat) : Kp (len1 bs own n row) := by
  refine (itm_kp own).bind fun x s a s' h => ?_
  split at h
  · cases h
  · split at h
    · cases h
    · cases h; rfl
theorem lens_kp (own : List Nat) (n : Nat) : Kp (lens bs own n) := Kp.run (len1_kp own n) []
theorem rdO_kp : ∀ k l, Kp (rdO bs k l) := by
  intro k
  induction k with
  | zero => intro l s a s' h; cases h; rfl
  | succ k ih => intro l; exact (rdN_kp 3).bind fun v => ih _
theorem told5_kp (l : Nat) (row : List Nat) : Kp (told5 bs lim l row) := by
  intro s a s' h
  unfold told5 at h
  split at h
  · cases h
  · split at h
    · exact syms_kp _ _ s a s' h
    · cases h
theorem told4_kp (l d : Nat) (o : List Nat) : Kp (told4 bs lim l d o) := by
  intro s a s' h
  unfold told4 at h
  split at h
  · cases h
  · exact (lens_kp _ _).bind (told5_kp l) s a s' h
theorem toldR_kp : Kp (toldR bs lim) := by
  refine (rdN_kp 5).bind fun l => (rdN_kp 5).bind fun d => (rdN_kp 4).bind fun c s a s' h => ?_
  unfold told3 at h
  split at h
  · cases h
  · exact (rdO_kp _ _).bind (told4_kp l d) s a s' h

/-- A block behind its three bits. -/
def kind (bs : List Nat) (lim k : Nat) (s : Sta) : Res Unit :=
  if k = 0 then stored bs lim s else if k = 1 then syms bs lim fixF fixO s else if k = 2 then toldR bs lim s else .bad 10
theorem kind_kp (k : Nat) : Kp (kind bs lim k) := by
  intro s a s' h
  unfold kind at h
  split at h
  · exact stored_kp s a s' h
  · split at h
    · exact syms_kp _ _ s a s' h
    · split at h
      · exact toldR_kp s a s' h
      · cases h
theorem blk_kind (s : Sta) : blk bs lim s = (rdN bs 2 s).bind fun k s1 => kind bs lim k s1 := by
  unfold blk kind
  simp only [toldR_eq]
/-- What follows a block. -/
def aft (bs : List Nat) (lim last : Nat) (s : Sta) : Res Unit :=
  if last = 1 then .ok () { s with blocks := s.blocks + 1 } else run (8 * bs.length) (blk1 bs lim) () { s with blocks := s.blocks + 1 }
theorem blks_eq (hb : Bs bs) {s : Sta} (hs : s.at_ ≤ 8 * bs.length) :
    run (8 * bs.length) (blk1 bs lim) () s = (rdN bs 1 s).bind fun last s1 => (rdN bs 2 s1).bind fun k s2 => (kind bs lim k s2).bind fun _ s3 => aft bs lim last s3 := by
  have he : blk1 bs lim () s = (rdN bs 1 s).bind fun last s1 => (rdN bs 2 s1).bind fun k s2 => (kind bs lim k s2).bind fun _ s3 => .ok (decide (last = 1), ()) { s3 with blocks := s3.blocks + 1 } := by
    unfold blk1
    simp only [Res.bind_assoc, blk_kind]
  rw [run_eq (blk1_takes hb) () hs, he]
  simp only [Res.bind_assoc]
  congr 1
  funext last s1
  congr 1
  funext k s2
  congr 1
  funext u s3
  unfold aft
  simp only [Res.bind_ok]
  by_cases h : last = 1
  · simp [h]
  · simp [h]
end

/-- While the row of bits grows. -/
structure Qr (w : World) (p : Nat) (bs : List Nat) (lim n : Nat) (rv : Value) (wr : World) : Prop where
  blk : Blk wr p 57 #[rv, .int .i64 0, .slice none 0 0, .int .i64 (lim : Nat), .int .i64 0, .int .i64 0, .int .i64 0]
  row : wr.ownsRow w.heap.size 5 1 rv n (u8s (rbits bs n))
  below : Below w.heap.size w wr
  hp : w.heap.size ≤ p
theorem Qr.put {w wr w1 : World} {p n lim : Nat} {bs : List Nat} {rv v' : Value} {o : Obj} {b : Nat} (h : Qr w p bs lim n rv wr) (hb : b = num bs / 2 ^ n % 2) (hA : Apd (wr.alloc o).drew w.heap.size rv (rbits bs n ++ [b]) v' w1) :
    w1.cell? ⟨p, 0, none⟩ = some rv ∧ w1.frozen? ⟨p, 0, none⟩ = false ∧ Hid (Qr w p bs lim (n + 1) v' (w1.setCell ⟨p, 0, none⟩ v')) := by
  have hb1 : Blk wr p 57 _ := h.blk
  have hne : ∀ k, rv.ownBlock = some k → k ≠ p := by
    intro k hk
    obtain ⟨cs', hc⟩ := own_ty h.row hk
    rintro rfl
    rw [Blk, hc] at hb1
    simp at hb1
  have t1 : Touch (fun k => rv.ownBlock = some k) wr w1 := (((Touch.refl _ wr).alloc o).drew).trans hA.touch
  have hb2 := h.blk.touch t1 (fun e => hne _ e rfl)
  have hpl := h.blk.lt
  refine ⟨(hb2.cell 0).trans rfl, hb2.free 0, Lib.hid ⟨hb2.setCell 0 _, ?_, ?_, h.hp⟩⟩
  · have t2 : Touch (fun k => k = p) w1 (w1.setCell ⟨p, 0, none⟩ v') := (Touch.refl _ w1).setCell _ _ (.inl rfl)
    have ho := ownsRow_touch hA.own t2 fun k hk e => by
      rcases hA.row k hk with h1 | h1
      · exact hne k h1 e
      · have : (wr.alloc o).drew.heap.size = wr.heap.size + 1 := by simp [World.drew]
        omega
    rw [rbits_succ, ← hb]
    rw [List.length_append, rbits_len] at ho
    exact ho
  · exact (h.below.trans (t1.below h.below.size fun k hk => (h.row.lt k hk).1)).setCell h.hp _
theorem and_one8 (i : Nat) (hi : i < 256) : bits BinOp.and IntKind.u8 (i : Int) 1 = ((i % 2 : Nat) : Int) := by
  have key : ∀ i : Nat, i < 256 → bits BinOp.and IntKind.u8 (i : Int) 1 = ((i % 2 : Nat) : Int) := by decide +kernel
  exact key i hi
end Go.Proofs.YtnnkegpnjedneaaDoor

/-
  The reference's Inflate.
-/
namespace Go.Proofs.YtnnkegpnjedneaaDoor
open Go.RowKit
set_option maxRecDepth 100000

theorem kind_nz {bs : List Nat} {lim : Nat} (k : Nat) : NZ (8 * bs.length) (kind bs lim k) := by
  intro s er hs h
  unfold kind at h
  split at h
  · exact stored_nz s er hs h
  · split at h
    · exact syms_nz _ _ s er hs h
    · split at h
      · rw [← toldR_eq] at h
        exact (codes_nz.bind codes_pr fun c => syms_nz c.1 c.2) s er hs h
      · cases h; omega
theorem kind_pr {bs : List Nat} {lim : Nat} (hb : Bs bs) (k : Nat) : Pr (8 * bs.length) lim (kind bs lim k) := by
  intro s a s' hs h
  unfold kind at h
  split at h
  · exact stored_pr hb s a s' hs h
  · split at h
    · exact syms_pr _ _ s a s' hs h
    · split at h
      · rw [← toldR_eq] at h
        exact (codes_pr.bind fun c => syms_pr c.1 c.2) s a s' hs h
      · cases h
theorem QS.blocks {B p : Nat} {rv : Value} {bs : List Nat} {lim nb er : Nat} {w : World} {ov : Value} {s : Sta} (h : QS B p rv bs lim nb er w ov s) (x : Nat) : QS B p rv bs lim nb er w ov { s with blocks := x } :=
  ⟨h.blk, h.row, h.own, h.ne, h.hp, h.len, h.lim_, h.in_, h.out, h.steps, h.nb_, h.er_, h.bytes, h.bsb⟩

/-- What the reference's Inflate leaves. -/
def RInf (w : World) (bs : List Nat) (lim : Nat) (r : Res Unit) (e : Ending) (w' : World) : Prop :=
  Below w.heap.size w w' ∧ ∃ (p : Nat) (rv ov : Value) (s : Sta) (nb er : Nat), e = .returned (.tuple #[.pointer (some ⟨p, 0, none⟩), .int .i64 (er : Nat)]) ∧ QS w.heap.size p rv bs lim nb er w' ov s ∧
    ((r = .bad er ∧ er ≠ 0) ∨ (er = 0 ∧ r = .ok () s ∧ nb = s.blocks))

/-- While blocks are read. -/
inductive Bq (w : World) (p : Nat) (rv : Value) (bs : List Nat) (lim : Nat) (R : Res Unit) (gm : Nat) (v9 : Value) (wr : World) : Prop where
  | go (ov' : Value) (s' : Sta) (q : QS w.heap.size p rv bs lim s'.blocks 0 wr ov' s') (b : Below w.heap.size w wr) (h9 : v9 = .int .i64 0) (r : R = run (8 * bs.length) (blk1 bs lim) () s') (sb : s'.blocks ≤ s'.at_) (g : 8 * bs.length + 1 - s'.at_ ≤ gm)
  | done (ov' : Value) (s' : Sta) (q : QS w.heap.size p rv bs lim s'.blocks 0 wr ov' s') (b : Below w.heap.size w wr) (h9 : v9 = .int .i64 1) (r : R = .ok () s')
  | bad (er nb l : Nat) (ov' : Value) (s' : Sta) (q : QS w.heap.size p rv bs lim nb er wr ov' s') (b : Below w.heap.size w wr) (h9 : v9 = .int .i64 (l : Nat)) (r : R = .bad er) (h : er ≠ 0)

set_option maxHeartbeats 6400000 in
theorem rInflate_any {w : World} {v : Value} {bs : List Nat} (h : BySl w v bs) (hb : Bs bs) (hl : bs.length ≤ 1000) (limit : Int) (lim : Nat) (hlim : lim = limit.toNat) (hl2 : lim ≤ 2000000) :
    Calls Tryd.prog 27 #[v, .int .i64 limit] w (RInf w bs lim (infl bs lim)) := by
  have hmx : max limit 0 = (lim : Int) := by omega
  have HM := Lib.hid hmx
  obtain ⟨ao, c, rfl⟩ := h.len
  obtain ⟨R, hR⟩ : ∃ R, R = infl bs lim := ⟨_, rfl⟩
  rw [← hR]
  have HR0 := Lib.hid hR
  have HS := Lib.hid fun W (hW : Below w.heap.size w W) => h.grow hW
  have HB := Lib.hid hb
  obtain ⟨N, hN⟩ : ∃ N, N = bs.length := ⟨_, rfl⟩
  have HN := Lib.hid hN
  have HL := Lib.hid (And.intro hl hl2)
  have hNb : N ≤ 1000 := by omega
  obtain ⟨p, hp⟩ : ∃ p, p = w.heap.size := ⟨_, rfl⟩
  have H0 : Hid (Qr w p bs lim (8 * 0) (.slice none 0 0) (w.alloc (.cells #[.slice none 0 0, .int .i64 0, .slice none 0 0, .int .i64 (lim : Nat), .int .i64 0, .int .i64 0, .int .i64 0] 57))) :=
    Lib.hid ⟨by rw [hp]; exact Blk.made _ _ _, World.ownsRow_nil _ _ _ _, (Below.refl _ w).alloc (Nat.le_refl _) _, by omega⟩
  rw [← hN] at HS ⊢
  clear h hb hmx hlim hR hl hl2 hN
  go_enter Tryd.func27, Tryd.ntmps27
  go_wp2
  rw [HM.out]
  rw [← hp]
  clear hp
  go_loopg [7] (N + 1) (fun gm v7 wr => ∃ i, i ≤ N ∧ N + 1 - i ≤ gm ∧ v7 = .int .i64 (i : Nat) ∧ Hid (∃ rv, Qr w p bs lim (8 * i) rv wr))
  case atStart => exact ⟨0, Nat.zero_le _, Nat.le_refl _, rfl, Lib.hid ⟨_, H0.out⟩⟩
  case round =>
    clear H0
    obtain ⟨i, hi, hgm, rfl, HX⟩ := hrel
    by_cases hlt : i < N
    · have hlt' : (i : Int) < N := by omega
      have HX0 : Hid (∃ rv, Qr w p bs lim (8 * i + 0) rv wr) := HX
      clear HX
      go_wp2
      go_loopg [8] 9 (fun gm v8 wr2 => ∃ k, k ≤ 8 ∧ 9 - k ≤ gm ∧ v8 = .int .i64 (k : Nat) ∧ Hid (∃ rv, Qr w p bs lim (8 * i + k) rv wr2))
      case atStart => exact ⟨0, Nat.zero_le _, Nat.le_refl _, rfl, HX0⟩
      case round =>
        clear HX0
        obtain ⟨k, hk, hgk, rfl, HY⟩ := hrel
        by_cases hk8 : k < 8
        · have hk8' : (k : Int) < 8 := by omega
          obtain ⟨rv, hq⟩ := HY.out
          obtain ⟨m, hm⟩ : ∃ m, m = 8 * i + k := ⟨_, rfl⟩
          rw [← hm] at hq
          obtain ⟨a1, c1, rfl⟩ := own_shape hq.row
          have HQ := Lib.hid hq
          obtain ⟨xs, hxs⟩ : ∃ xs, xs = rbits bs m := ⟨_, rfl⟩
          have hxl : xs.length = m := by rw [hxs, rbits_len]
          have HXS := Lib.hid hxs
          have HOWN : Hid (wr.ownsRow w.heap.size 5 1 (.slice a1 m c1) xs.length (u8s xs)) := Lib.hid (by rw [hxl, hxs]; exact hq.row)
          have hBS := hq.below.size
          obtain ⟨b1, off, rfl, g1⟩ := (show BySl wr (.slice ao bs.length c) bs by rw [← HN.out]; exact HS.out wr hq.below).get i (by rw [← HN.out]; exact hlt)
          obtain ⟨x, hx⟩ : ∃ x, x = bs.getD i 0 := ⟨_, rfl⟩
          rw [← hx] at g1
          have hx256 : x < 256 := by rw [hx]; exact getD_bs HB.out i
          obtain ⟨q, hqe⟩ : ∃ q, q = x / 2 ^ k := ⟨_, rfl⟩
          have hq256 : q < 256 := by rw [hqe]; exact Nat.lt_of_le_of_lt (Nat.div_le_self _ _) hx256
          obtain ⟨bt, hbt⟩ : ∃ bt, bt = q % 2 := ⟨_, rfl⟩
          have e0 : IntKind.u64.wrap (k : Int) = k := by rw [IntKind.wrap_u64]; omega
          have e1 : (x : Int) / 2 ^ k = (q : Nat) := by rw [hqe]; simp
          have e2 := and_one8 q hq256
          rw [← hbt] at e2
          have hb2 : bt ≤ 1 := by omega
          have HBT : Hid (bt = num bs / 2 ^ m % 2) := Lib.hid (by
            have h1 := byte_bit HB.out m
            rw [show m / 8 = i by omega, show m % 8 = k by omega] at h1
            rw [hbt, hqe, hx]; exact h1)
          have c0 := (hq.blk.cell 0).trans (show _ = some (.slice a1 m c1) from rfl)
          have ta := (Touch.refl (fun _ => False) wr).alloc (.cells #[.int .u8 (bt : Nat)] 5)
          have c0' := ((hq.blk.touch ta (fun h => h)).cell 0).trans (show _ = some (.slice a1 m c1) from rfl)
          have HMM := Lib.hid hm
          have hmb : m ≤ 8000 := by omega
          have HXL := Lib.hid hxl
          clear hq hxs hxl hx hqe hbt hm ta HY
          go_wp2
          go_region_law (refine step_append_x rfl (.tmp 35) (.tmp 44) rfl w.heap.size (.slice a1 m c1) (.slice (some ⟨wr.heap.size, 0, none⟩) 1 1) xs [bt] (by simp [Act.eval]) (by simp [Act.eval]) (World.ownsRow.alloc (w := wr) HOWN.out _) (by_one wr bt rfl) (by simp; omega) (by simp; rw [HXL.out]; omega) ?_; intro ao2 cc2 w2 hA; rw [HXS.out] at hA; obtain ⟨m1, m2, m3⟩ := HQ.out.put HBT.out hA; clear hA)
          all_goals
            go_wp2
            go_roundg (9 - (k + 1))
            case measure => omega
            case rel =>
              have h9 := m3.out
              rw [← HXS.out, List.length_append, List.length_singleton, HMM.out] at h9
              exact ⟨k + 1, by omega, Nat.le_refl _, by simp, Lib.hid ⟨_, h9⟩⟩
        · obtain rfl : k = 8 := by omega
          go_wp2
          go_roundg (N + 1 - (i + 1))
          case measure => omega
          case rel => exact ⟨i + 1, by omega, Nat.le_refl _, by simp, HY⟩
    · obtain rfl : i = N := by omega
      obtain ⟨rv, hq⟩ := HX.out
      have HT0 : Hid (Bq w p rv bs lim R (8 * bs.length + 1) (.int .i64 0) wr) := Lib.hid (.go (.slice none 0 0) st0
        ⟨hq.blk, by rw [← HN.out]; exact hq.row, World.ownsRow_nil _ _ _ _, fun k hk => absurd hk (by simp [Value.ownBlock]), hq.hp, HL.out.1, HL.out.2, Nat.zero_le _, Nat.zero_le _, Nat.zero_le _, Nat.zero_le _, Nat.zero_le _, Bs.nil, HB.out⟩
        hq.below rfl HR0.out (Nat.le_refl _) (by simp [st0]))
      clear hq HX HR0 hi hgm hlt
      go_wp2
      go_loopg [9] (8 * bs.length + 1) (fun gm v9 wr => Hid (Bq w p rv bs lim R gm v9 wr))
      case atStart => exact HT0
      case round =>
        clear HT0
        cases hrel.out with
        | done ov1 s1 q b h9 r =>
          subst h9
          have c4 := q.cells.c4
          have HT := Lib.hid q
          have BT := Lib.hid b
          have HRD := Lib.hid r
          clear q b r hrel
          go_wp2
          go_quiet (fail)
          go_wp2
          go_ret2
          exact ⟨BT.out.trans (HT.out.below (HT.out.drewN _).2.touch), p, rv, _, _, _, _, rfl, (HT.out.drewN _).1, (.inr ⟨rfl, HRD.out, rfl⟩)⟩
        | bad er nb l ov1 s1 q b h9 r her =>
          subst h9
          have c4 := q.cells.c4
          have dE : ((er : Int) == 0) = false := by simp; omega
          have HT := Lib.hid q
          have BT := Lib.hid b
          have HRT := Lib.hid (Or.inl (And.intro r her) : (R = .bad er ∧ er ≠ 0) ∨ (er = 0 ∧ R = .ok () s1 ∧ nb = s1.blocks))
          clear q b r her hrel
          by_cases hl0 : l = 0
          · subst hl0
            go_wp2
            go_quiet (fail)
            go_wp2
            go_ret2
            exact ⟨BT.out.trans (HT.out.below (HT.out.drewN _).2.touch), p, rv, _, _, _, _, rfl, (HT.out.drewN _).1, HRT.out⟩
          · have d9 : ((l : Int) == 0) = false := by simp; omega
            clear hl0
            go_wp2
            go_quiet (fail)
            go_wp2
            go_ret2
            exact ⟨BT.out.trans (HT.out.below (HT.out.drewN _).2.touch), p, rv, _, _, _, _, rfl, (HT.out.drewN _).1, HRT.out⟩
        | go ov0 s0 q b h9 r sb g =>
          subst h9
          have hin := q.in_
          have c4 := q.cells.c4
          rw [blks_eq HB.out hin] at r
          have HR := Lib.hid r
          have N1 := Lib.hid (num_any q 1 (by omega))
          have B0 := Lib.hid b
          have Q0 := Lib.hid q
          have hsb : s0.blocks ≤ 8000 := by have := q.len; omega
          clear q b r hrel
          go_wp2_with fail
          refine N1.out.mono ?_
          rintro e w1 h1
          have hR := HR.out
          cases hr1 : rdN bs 1 s0 with
          | bad er =>
            rw [hr1] at h1 hR
            obtain rfl := rdN_er hr1
            obtain ⟨rfl, ov1, s1, h1, m1⟩ := h1
            have Q1 := Lib.hid h1
            have B1 := Lib.hid (B0.out.trans (Q0.out.below m1.touch))
            have HR1 := Lib.hid hR
            clear hr1 hR h1 m1 N1 c4
            go_wp2_with fail
            refine (num_idle Q1.out (by omega) 2).mono ?_
            rintro e w2 ⟨rfl, qn, hw2⟩
            have hq2 := Q1.out.drewN qn
            rw [← hw2] at hq2
            have HT := Lib.hid hq2.1
            have BT := Lib.hid (B1.out.trans (Q1.out.below hq2.2.touch))
            have HRT := Lib.hid (Or.inl (And.intro HR1.out (by omega)) : (R = .bad 15 ∧ (15 : Nat) ≠ 0) ∨ ((15 : Nat) = 0 ∧ R = .ok () s1 ∧ s0.blocks = s1.blocks))
            have c4 := hq2.1.cells.c4
            clear hq2 hw2
            go_wp2
            go_quiet (fail)
            go_wp2
            go_ret2
            exact ⟨BT.out.trans (HT.out.below (HT.out.drewN _).2.touch), p, rv, _, _, _, _, rfl, (HT.out.drewN _).1, HRT.out⟩
          | ok last s1 =>
            rw [hr1] at h1 hR
            have hlast := rdN_lt hr1
            obtain ⟨_, kx, hs1⟩ := rdN_is hr1
            clear kx
            have hlast2 : last < 2 := hlast
            obtain ⟨rfl, ov1, h1, m1⟩ := h1
            rw [Res.bind_ok] at hR
            have N2 := Lib.hid (num_any h1 2 (by omega))
            have Q1 := Lib.hid h1
            have B1 := Lib.hid (B0.out.trans (Q0.out.below m1.touch))
            have HR1 := Lib.hid hR
            have HS1 := Lib.hid hs1
            clear hr1 hR h1 m1 N1 c4 hlast hs1 HR
            go_wp2_with fail
            refine N2.out.mono ?_
            rintro e w2 h2
            have hR := HR1.out
            cases hr2 : rdN bs 2 s1 with
            | bad er =>
              rw [hr2] at h2 hR
              obtain rfl := rdN_er hr2
              obtain ⟨rfl, ov2, s2, h2, m2⟩ := h2
              have HT := Lib.hid h2
              have BT := Lib.hid (B1.out.trans (Q1.out.below m2.touch))
              have HRT := Lib.hid (Or.inl (And.intro hR (by omega)) : (R = .bad 15 ∧ (15 : Nat) ≠ 0) ∨ ((15 : Nat) = 0 ∧ R = .ok () s2 ∧ s0.blocks = s2.blocks))
              have c4 := h2.cells.c4
              clear hr2 hR h2 m2 N2 HR1
              go_wp2
              go_quiet (fail)
              go_wp2
              go_ret2
              exact ⟨BT.out.trans (HT.out.below (HT.out.drewN _).2.touch), p, rv, _, _, _, _, rfl, (HT.out.drewN _).1, HRT.out⟩
            | ok k s2 =>
              rw [hr2] at h2 hR
              have hk := rdN_lt hr2
              obtain ⟨_, kx, hs2⟩ := rdN_is hr2
              clear kx
              have hk4 : k < 4 := hk
              obtain ⟨rfl, ov2, h2, m2⟩ := h2
              rw [Res.bind_ok] at hR
              have hin2 := h2.in_
              have HS2 : Hid (s2 = { s0 with at_ := s0.at_ + 1 + 2 }) := Lib.hid (by rw [hs2, HS1.out])
              have c4 := h2.cells.c4
              have c6 := h2.cells.c6
              have f6 := h2.cells.f6
              have hq3 := h2.setBlocks (s0.blocks + 1) (by omega) (x := (s0.blocks : Int) + 1) (by simp)
              have Q3 := Lib.hid hq3.1
              have B2 := Lib.hid ((B1.out.trans (Q1.out.below m2.touch)).trans (h2.below hq3.2.touch))
              clear hr2 hk hs2 h2 m2 hq3 N2 HR1
              rcases (by omega : k = 0 ∨ k = 1 ∨ k = 2 ∨ k = 3) with rfl | rfl | rfl | rfl
              · have HK := Lib.hid (rstored_any Q3.out)
                go_wp2_with fail
                refine HK.out.mono ?_
                rintro e w3 h3
                cases hkd : kind bs lim 0 s2 with
                | bad er =>
                  have her := kind_nz 0 s2 er hin2 hkd
                  have hkd' : stored bs lim s2 = .bad er := hkd
                  rw [hkd'] at h3
                  rw [hkd, Res.bind_bad] at hR
                  obtain ⟨rfl, ov3, s3, h3, m3⟩ := h3
                  have Q3' := Lib.hid h3
                  have B3 := Lib.hid (B2.out.trans (Q3.out.below m3.touch))
                  have HRR := Lib.hid hR
                  have HER := Lib.hid her
                  clear hkd hkd' hR h3 m3 her HK
                  go_wp2
                  go_roundg 0
                  case measure => omega
                  case rel => exact Lib.hid (.bad er _ last _ _ Q3'.out B3.out rfl HRR.out HER.out)
                | ok u s3 =>
                  have hle := (kind_pr (lim := lim) HB.out 0 s2 u s3 hin2 hkd).at_
                  have hbl := kind_kp 0 s2 u s3 hkd
                  have hkd' : stored bs lim s2 = .ok u s3 := hkd
                  rw [hkd'] at h3
                  rw [hkd, Res.bind_ok] at hR
                  obtain ⟨rfl, ov3, h3, m3⟩ := h3
                  have Q3' := Lib.hid (h3.blocks (s3.blocks + 1))
                  have B3 := Lib.hid (B2.out.trans (Q3.out.below m3.touch))
                  have HBL : Hid (s0.blocks + 1 = s3.blocks + 1) := Lib.hid (by rw [hbl, HS2.out])
                  rw [HBL.out] at Q3'
                  unfold aft at hR
                  have hat3 : s0.at_ + 3 ≤ s3.at_ := by rw [HS2.out] at hle; exact hle
                  have hin3 := h3.in_
                  have hbl3 : s3.blocks = s0.blocks := by rw [hbl, HS2.out]
                  rcases (by omega : last = 0 ∨ last = 1) with rfl | rfl
                  · rw [if_neg (by omega)] at hR
                    have HRR := Lib.hid hR
                    clear hkd hkd' hR h3 m3 HK hbl
                    go_wp2
                    go_roundg (8 * bs.length + 1 - s3.at_)
                    case measure => omega
                    case rel => exact Lib.hid (.go _ _ Q3'.out B3.out rfl HRR.out (by show s3.blocks + 1 ≤ s3.at_; omega) (Nat.le_refl _))
                  · rw [if_pos rfl] at hR
                    have HRR := Lib.hid hR
                    clear hkd hkd' hR h3 m3 HK hbl
                    go_wp2
                    go_roundg 0
                    case measure => omega
                    case rel => exact Lib.hid (.done _ _ Q3'.out B3.out rfl HRR.out)
              · go_wp2_with fail
                refine (rFixed_any _).mono ?_
                rintro e wf ⟨a1, c1, a2, c2, rfl, i1, i2, bf⟩
                have hf := Q3.out.grow bf
                have F1 := Lib.hid hf
                have hN1 := rnew_ok a1 c1 fixFZ fixF wf i1 fix_vd1 fixF_okW.1 fixFZ_nat
                rw [fixFZ_len] at hN1
                have HN1 := Lib.hid hN1
                have I2 := Lib.hid i2
                clear hN1 hf i1 i2 bf
                go_wp2_with fail
                refine HN1.out.mono ?_
                rintro e wg ⟨p1, rfl, st1, bg⟩
                have hg := F1.out.1.grow bg
                have hN2 := rnew_ok a2 c2 fixOZ fixO wg (I2.out.below bg) fix_vd2 fixO_okW.1 fixOZ_nat
                rw [fixOZ_len] at hN2
                have HN2 := Lib.hid hN2
                have CD1 : Hid (Cod wg p ov2 p1 fixF) := Lib.hid fun w2 ht => (st1 w2 (ht.mono fun k hk => F1.out.1.top k hk)).1
                have F2 := Lib.hid (And.intro hg.1 (F1.out.2.trans hg.2))
                clear hN2 hg st1 bg HN1 I2 F1
                go_wp2_with fail
                refine HN2.out.mono ?_
                rintro e wh ⟨p2, rfl, st2, bh⟩
                have hh := F2.out.1.grow bh
                have CD2 : Hid (Cod wh p ov2 p2 fixO) := Lib.hid fun w2 ht => (st2 w2 (ht.mono fun k hk => F2.out.1.top k hk)).1
                have CE1 := Lib.hid (CD1.out.on hh.2)
                have HK := Lib.hid (rsymbols_any hh.1 CE1.out CD2.out fixF_okW.1 fixO_okW.1)
                have B2 := Lib.hid (B2.out.trans (Q3.out.below (F2.out.2.trans hh.2).touch))
                have Q3 := Lib.hid hh.1
                clear hh st2 bh HN2 F2 CD1
                go_wp2_with fail
                refine HK.out.mono ?_
                rintro e w3 h3
                cases hkd : kind bs lim 1 s2 with
                | bad er =>
                  have her := kind_nz 1 s2 er hin2 hkd
                  have hkd' : syms bs lim fixF fixO s2 = .bad er := hkd
                  rw [hkd'] at h3
                  rw [hkd, Res.bind_bad] at hR
                  obtain ⟨rfl, ov3, s3, h3, m3⟩ := h3
                  have Q3' := Lib.hid h3
                  have B3 := Lib.hid (B2.out.trans (Q3.out.below m3.touch))
                  have HRR := Lib.hid hR
                  have HER := Lib.hid her
                  clear hkd hkd' hR h3 m3 her HK
                  go_wp2
                  go_roundg 0
                  case measure => omega
                  case rel => exact Lib.hid (.bad er _ last _ _ Q3'.out B3.out rfl HRR.out HER.out)
                | ok u s3 =>
                  have hle := (kind_pr (lim := lim) HB.out 1 s2 u s3 hin2 hkd).at_
                  have hbl := kind_kp 1 s2 u s3 hkd
                  have hkd' : syms bs lim fixF fixO s2 = .ok u s3 := hkd
                  rw [hkd'] at h3
                  rw [hkd, Res.bind_ok] at hR
                  obtain ⟨rfl, ov3, h3, m3⟩ := h3
                  have Q3' := Lib.hid (h3.blocks (s3.blocks + 1))
                  have B3 := Lib.hid (B2.out.trans (Q3.out.below m3.touch))
                  have HBL : Hid (s0.blocks + 1 = s3.blocks + 1) := Lib.hid (by rw [hbl, HS2.out])
                  rw [HBL.out] at Q3'
                  unfold aft at hR
                  have hat3 : s0.at_ + 3 ≤ s3.at_ := by rw [HS2.out] at hle; exact hle
                  have hin3 := h3.in_
                  have hbl3 : s3.blocks = s0.blocks := by rw [hbl, HS2.out]
                  rcases (by omega : last = 0 ∨ last = 1) with rfl | rfl
                  · rw [if_neg (by omega)] at hR
                    have HRR := Lib.hid hR
                    clear hkd hkd' hR h3 m3 HK hbl
                    go_wp2
                    go_roundg (8 * bs.length + 1 - s3.at_)
                    case measure => omega
                    case rel => exact Lib.hid (.go _ _ Q3'.out B3.out rfl HRR.out (by show s3.blocks + 1 ≤ s3.at_; omega) (Nat.le_refl _))
                  · rw [if_pos rfl] at hR
                    have HRR := Lib.hid hR
                    clear hkd hkd' hR h3 m3 HK hbl
                    go_wp2
                    go_roundg 0
                    case measure => omega
                    case rel => exact Lib.hid (.done _ _ Q3'.out B3.out rfl HRR.out)
              · have HK := Lib.hid (rtold_any Q3.out)
                go_wp2_with fail
                refine HK.out.mono ?_
                rintro e w3 h3
                cases hkd : kind bs lim 2 s2 with
                | bad er =>
                  have her := kind_nz 2 s2 er hin2 hkd
                  have hkd' : toldR bs lim s2 = .bad er := hkd
                  rw [hkd'] at h3
                  rw [hkd, Res.bind_bad] at hR
                  obtain ⟨rfl, ov3, s3, h3, m3⟩ := h3
                  have Q3' := Lib.hid h3
                  have B3 := Lib.hid (B2.out.trans (Q3.out.below m3.touch))
                  have HRR := Lib.hid hR
                  have HER := Lib.hid her
                  clear hkd hkd' hR h3 m3 her HK
                  go_wp2
                  go_roundg 0
                  case measure => omega
                  case rel => exact Lib.hid (.bad er _ last _ _ Q3'.out B3.out rfl HRR.out HER.out)
                | ok u s3 =>
                  have hle := (kind_pr (lim := lim) HB.out 2 s2 u s3 hin2 hkd).at_
                  have hbl := kind_kp 2 s2 u s3 hkd
                  have hkd' : toldR bs lim s2 = .ok u s3 := hkd
                  rw [hkd'] at h3
                  rw [hkd, Res.bind_ok] at hR
                  obtain ⟨rfl, ov3, h3, m3⟩ := h3
                  have Q3' := Lib.hid (h3.blocks (s3.blocks + 1))
                  have B3 := Lib.hid (B2.out.trans (Q3.out.below m3.touch))
                  have HBL : Hid (s0.blocks + 1 = s3.blocks + 1) := Lib.hid (by rw [hbl, HS2.out])
                  rw [HBL.out] at Q3'
                  unfold aft at hR
                  have hat3 : s0.at_ + 3 ≤ s3.at_ := by rw [HS2.out] at hle; exact hle
                  have hin3 := h3.in_
                  have hbl3 : s3.blocks = s0.blocks := by rw [hbl, HS2.out]
                  rcases (by omega : last = 0 ∨ last = 1) with rfl | rfl
                  · rw [if_neg (by omega)] at hR
                    have HRR := Lib.hid hR
                    clear hkd hkd' hR h3 m3 HK hbl
                    go_wp2
                    go_roundg (8 * bs.length + 1 - s3.at_)
                    case measure => omega
                    case rel => exact Lib.hid (.go _ _ Q3'.out B3.out rfl HRR.out (by show s3.blocks + 1 ≤ s3.at_; omega) (Nat.le_refl _))
                  · rw [if_pos rfl] at hR
                    have HRR := Lib.hid hR
                    clear hkd hkd' hR h3 m3 HK hbl
                    go_wp2
                    go_roundg 0
                    case measure => omega
                    case rel => exact Lib.hid (.done _ _ Q3'.out B3.out rfl HRR.out)
              · have HRR : Hid (R = .bad 10) := Lib.hid (by rw [hR]; rfl)
                clear hR
                go_wp2_with fail
                refine (fail_yes Q3.out 10 (by omega)).mono ?_
                rintro e w3 ⟨rfl, h3, m3⟩
                have Q3' := Lib.hid h3
                have B3 := Lib.hid (B2.out.trans (Q3.out.below m3.touch))
                clear h3 m3
                go_wp2
                go_roundg 0
                case measure => omega
                case rel => exact Lib.hid (.bad 10 _ last _ _ Q3'.out B3.out rfl HRR.out (by omega))
end Go.Proofs.YtnnkegpnjedneaaDoor

