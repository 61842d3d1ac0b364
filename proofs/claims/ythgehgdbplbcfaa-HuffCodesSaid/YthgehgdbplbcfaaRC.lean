/-
  Contract of the reference's New.
-/
import Derived.Test.YthgehgdbplbcfaaRB
namespace Go.Proofs.Ythgehgdbplbcfaa
open Go.RowKit

theorem rroom_yes (ao : Option Addr) (c : Nat) (zs : List Int) (w : World) (h : IS w ao zs) (hv : Vd zs) :
    Calls Try.prog 11 #[.slice ao zs.length c] w fun e w' => e = .returned (.tuple #[.int .i64 (room (nat zs) : Nat), .bool true]) ∧ w = w' :=
  (rroom_any ao c zs w h).mono fun _ _ k => ⟨k.2.1 hv, k.1⟩
theorem rroom_no (ao : Option Addr) (c : Nat) (zs : List Int) (w : World) (h : IS w ao zs) (hv : ¬ Vd zs) :
    Calls Try.prog 11 #[.slice ao zs.length c] w fun e w' => e = .returned (.tuple #[.int .i64 0, .bool false]) ∧ w = w' :=
  (rroom_any ao c zs w h).mono fun _ _ k => ⟨k.2.2 hv, k.1⟩

theorem rnew_range (ao : Option Addr) (c : Nat) (zs : List Int) (w : World) (h : IS w ao zs) (hv : ¬ Vd zs) :
    Calls Try.prog 13 #[.slice ao zs.length c] w fun e w' => e = .returned (.tuple #[.pointer none, .int .i64 11]) ∧ w = w' := by
  have HI := Lib.hid h
  have HV := Lib.hid hv
  clear h hv
  go_enter Try.func13, Try.ntmps13
  go_wp2_with (go_at_call 11; (refine (rroom_no ao c zs _ HI.out HV.out).mono ?_); rintro e w1 ⟨rfl, rfl⟩)
  go_ret2
  exact ⟨rfl, rfl⟩
theorem rnew_form (ao : Option Addr) (c : Nat) (zs : List Int) (w : World) (h : IS w ao zs) (hv : Vd zs) (hm : 32768 < room (nat zs)) :
    Calls Try.prog 13 #[.slice ao zs.length c] w fun e w' => e = .returned (.tuple #[.pointer none, .int .i64 10]) ∧ w = w' := by
  have HI := Lib.hid h
  have HV := Lib.hid hv
  have hm' : (32768 : Int) < (room (nat zs) : Nat) := by omega
  clear h hv
  go_enter Try.func13, Try.ntmps13
  go_wp2_with (go_at_call 11; (refine (rroom_yes ao c zs _ HI.out HV.out).mono ?_); rintro e w1 ⟨rfl, rfl⟩)
  go_ret2
  exact ⟨rfl, rfl⟩

/-- Which rows are whole when the symbol s of length l is next. -/
def done (ls : List Nat) (l s t : Nat) : List Nat := if ln ls t < l ∨ (ln ls t = l ∧ t < s) then cb ls t else []
theorem cb_zero {ls : List Nat} {t : Nat} (h : ln ls t = 0) : cb ls t = [] := by simp [cb, h]
theorem done_start (ls : List Nat) : done ls 1 0 = fun _ => [] := by
  funext t
  unfold done
  split
  · rename_i h
    exact cb_zero (by omega)
  · rfl
theorem done_next (ls : List Nat) (l N : Nat) (h : ls.length ≤ N) (t : Nat) : done ls (l + 1) 0 t = done ls l N t := by
  unfold done
  by_cases h1 : ln ls t < l
  · rw [if_pos (by omega), if_pos (by omega)]
  · by_cases h2 : ln ls t = l
    · by_cases h3 : t < N
      · rw [if_pos (by omega), if_pos (by omega)]
      · have h0 : ln ls t = 0 := by unfold ln; simp [List.getD, show ls.length ≤ t by omega]
        rw [if_pos (by omega), if_neg (by omega), cb_zero h0]
    · rw [if_neg (by omega), if_neg (by omega)]
theorem done_same {ls : List Nat} {l s : Nat} (h : ln ls s ≠ l) : done ls l (s + 1) = done ls l s := by
  funext t
  unfold done
  by_cases e : t = s
  · subst e; simp [h]
  · by_cases h2 : t < s
    · simp [h2, show t < s + 1 by omega]
    · simp [h2, show ¬ t < s + 1 by omega]
theorem done_step {ls : List Nat} {l s : Nat} (h : ln ls s = l) : done ls l (s + 1) = fun t => if t = s then cb ls s else done ls l s t := by
  funext t
  unfold done
  by_cases e : t = s
  · subst e; rw [if_pos rfl, if_pos (by omega)]
  · rw [if_neg e]
    by_cases h2 : t < s
    · simp [h2, show t < s + 1 by omega]
    · simp [h2, show ¬ t < s + 1 by omega]
theorem done_at {ls : List Nat} {l s : Nat} (h : ln ls s = l) : done ls l s s = [] := by
  unfold done
  rw [if_neg (by omega)]
theorem done_all {ls : List Nat} (H : Ok ls) : done ls 16 0 = cb ls := by
  funext t
  unfold done
  have := ln_le H t
  rw [if_pos (by omega)]
theorem code_step {ls : List Nat} {s l : Nat} (hs : s < ls.length) : (ls.take (s + 1)).count l = (ls.take s).count l + if ln ls s = l then 1 else 0 := by
  rw [take_succ_ln hs, List.count_append, List.count_singleton]
  by_cases h : ln ls s = l <;> simp [h]

theorem sz (n : Nat) : va (n * 1) (fun i => (Value.slice none 0 0).cells[i % (Value.slice none 0 0).cells.size]!) = va n (fun _ => .slice none 0 0) := by
  rw [Nat.mul_one]
  refine va_congr fun i _ => ?_
  show #[Value.slice none 0 0][i % 1]! = _
  rw [Nat.mod_one]
  rfl

theorem and_one (i : Nat) (hi : i < 4294967296) : bits BinOp.and IntKind.i64 (i : Int) 1 = ((i % 2 : Nat) : Int) := by
  have h := bits_mask .i64 32 (by decide) (fun n h0 h1 => by rw [show (2 : Int) ^ 32 = 4294967296 by decide] at h1; rw [IntKind.wrap_i64]; omega) 1 (by decide) (i : Int) (by omega) (by rw [show (2 : Int) ^ 32 = 4294967296 by decide]; omega)
  have e : ((2 : Int) ^ 1 - 1) = 1 := by decide
  rw [e] at h
  rw [h]
  omega

theorem Rw.mid {w wr w1 : World} {pr gl N rm : Nat} {F : Nat → Value} {X : Nat → List Nat} (h : Rw w pr gl N rm F X wr) {s : Nat} (hs : s < N) {o : Obj} {xs : List Nat} {v' : Value} (hA : Apd (wr.alloc o).drew w.heap.size (F s) xs v' w1) :
    w1.cell? ⟨pr, 0, none⟩ = some (.slice (some ⟨gl, 0, none⟩) N N) ∧ w1.cell? ⟨gl, s, none⟩ = some (F s) ∧ w1.frozen? ⟨gl, s, none⟩ = false := by
  have t1 : Touch (fun k => (F s).ownBlock = some k) wr w1 := (((Touch.refl _ wr).alloc o).drew).trans hA.touch
  have hc := h.c.touch t1 (fun e => (h.off s _ hs e).1 rfl)
  have hl := h.l.touch t1 (fun e => (h.off s _ hs e).2 rfl)
  exact ⟨(hc.cell 0).trans rfl, (hl.cell s).trans (va_at _ _ s hs), hl.free s⟩

/-- The head of the outer loop: the length l, and the number that stands in 'code'. -/
def RNew (w : World) (pr gl N rm : Nat) (ls : List Nat) (l s : Nat) (wr : World) : Prop := ∃ F, Rw w pr gl N rm F (done ls l s) wr
/-- The head of the innermost loop: j bits of s are there. -/
def RBit (w : World) (pr gl N rm : Nat) (ls : List Nat) (l s j : Nat) (wr : World) : Prop := ∃ F, Rw w pr gl N rm F (fun t => if t = s then (cb ls s).take j else done ls l s t) wr
theorem RNew.bit {w wr : World} {pr gl N rm l s : Nat} {ls : List Nat} (h : RNew w pr gl N rm ls l s wr) (hs : ln ls s = l) : RBit w pr gl N rm ls l s 0 wr := by
  obtain ⟨F, h⟩ := h
  have e : done ls l s = fun t => if t = s then (cb ls s).take 0 else done ls l s t := by
    funext t
    by_cases e : t = s
    · subst e; rw [if_pos rfl, done_at hs]; rfl
    · rw [if_neg e]
  rw [e] at h
  exact ⟨F, h⟩
theorem RBit.whole {w wr : World} {pr gl N rm l s : Nat} {ls : List Nat} (h : RBit w pr gl N rm ls l s l wr) (hs : ln ls s = l) : RNew w pr gl N rm ls l (s + 1) wr := by
  obtain ⟨F, h⟩ := h
  rw [List.take_of_length_le (by rw [cb_len]; omega), ← done_step hs] at h
  exact ⟨F, h⟩

theorem rbit_put {w wr w2 : World} {pr gl N rm n s j B : Nat} {ls : List Nat} {F : Nat → Value} {o : Obj} {v' : Value} (h : Rw w pr gl N rm F (fun t => if t = s then (cb ls s).take j else done ls n s t) wr) (hs : s < N) (hn : ln ls s = n) (hj : j < n) (hB : B = cd ls s / 2 ^ (ln ls s - 1 - j) % 2)
    (hA : Apd (wr.alloc o).drew w.heap.size (F s) ((cb ls s).take j ++ [B]) v' w2) : RBit w pr gl N rm ls n s (j + 1) (w2.setCell ⟨gl, s, none⟩ v') := by
  have h1 := h.put hs (bit := B) (v' := v') (o := o) (w1 := w2) (by
    show Apd _ _ _ ((if s = s then (cb ls s).take j else done ls n s s) ++ [B]) _ _
    rw [if_pos rfl]; exact hA)
  have e : (fun t => if t = s then (cb ls s).take (j + 1) else done ls n s t) = fun t => if t = s then (if s = s then (cb ls s).take j else done ls n s s) ++ [B] else if t = s then (cb ls s).take j else done ls n s t := by
    funext t
    by_cases e : t = s
    · rw [if_pos e, if_pos e, if_pos rfl, cb_take ls s j (by omega), hB]
    · rw [if_neg e, if_neg e, if_neg e]
  refine ⟨fun t => if t = s then v' else F t, ?_⟩
  rw [e]
  exact h1

def RNewTo (w : World) (ls : List Nat) (e : Ending) (w' : World) : Prop := ∃ p, e = .returned (.tuple #[.pointer (some ⟨p, 0, none⟩), .int .i64 0]) ∧ RAt w' p ls ∧ Below w.heap.size w w'

set_option maxRecDepth 100000 in
set_option maxHeartbeats 6400000 in
theorem rnew_ok (ao : Option Addr) (c : Nat) (zs : List Int) (ls : List Nat) (w : World) (h : IS w ao zs) (hv : Vd zs) (H : Ok ls) (hls : nat zs = ls) :
    Calls Try.prog 13 #[.slice ao zs.length c] w (RNewTo w ls) := by
  have HI := Lib.hid h
  have HV := Lib.hid hv
  have HO := Lib.hid H
  have HL : Hid (ls.length = zs.length) := Lib.hid (by rw [← hls, nat_len])
  have HZ : Hid (∀ k, k < zs.length → zs.getD k 0 = (ln ls k : Nat)) := Lib.hid fun k hk => by rw [← hls]; exact (hv.ln hk).1
  have hzl := hv.len
  have K1 := Lib.hid (rroom_yes ao c zs w h hv)
  rw [hls] at K1
  have hm' : decide ((32768 : Int) < (room ls : Nat)) = false := by have := H.few; simp; omega
  clear h hv H hls
  go_enter Try.func13, Try.ntmps13
  go_upto_region 7 with (first
    | (go_at_call 11; (refine K1.out.mono ?_); rintro e w1 ⟨rfl, rfl⟩)
    | (refine wpList_make_z rfl 39 (.tmp 21) (.tmp 21) rfl 38 (.slice none 0 0) 1 24 zs.length Try.underlying39 (by kernel_rfl) .i64 .i64 _ _ rfl rfl rfl rfl (by omega) (by omega) ?_; intro W hb ht hs; have HS := Lib.hid hs; clear hs))
  obtain ⟨gl, hgl⟩ : ∃ gl, gl = w.heap.size := ⟨_, rfl⟩
  obtain ⟨pr, hpr⟩ : ∃ pr, pr = W.heap.size := ⟨_, rfl⟩
  have H0 : Hid (RNew w pr gl zs.length (room ls) ls 1 0 (W.alloc (.cells #[.slice (some ⟨gl, 0, none⟩) zs.length zs.length, .int .i64 (room ls : Nat)] 41))) := by
    have h1 := HS.out
    rw [sz, ← hgl] at hb
    have t := (Touch.refl (fun _ => False) W).alloc (.cells #[.slice (some ⟨gl, 0, none⟩) zs.length zs.length, .int .i64 (room ls : Nat)] 41)
    refine Lib.hid ⟨_, ?_, hb.touch t (fun h => h), fun s hs => ?_, fun s t k _ _ _ hk => ?_, fun s k _ hk => ?_, by omega, (ht.trans t).below (Nat.le_refl _) (fun _ h => h.elim), by omega, by omega⟩
    · rw [hpr]; exact Blk.made W 41 _
    · rw [done_start]; exact World.ownsRow_nil _ _ _ _
    · simp [Value.ownBlock] at hk
    · simp [Value.ownBlock] at hk
  rw [← hgl, ← hpr]
  clear hgl hpr hb ht HS
  obtain ⟨rm, hrm⟩ : ∃ rm, rm = room ls := ⟨_, rfl⟩
  rw [← hrm] at H0 ⊢
  clear hrm
  generalize W.alloc (.cells #[.slice (some ⟨gl, 0, none⟩) zs.length zs.length, .int .i64 (rm : Nat)] 41) = W0 at H0 ⊢
  go_wp2
  go_loopw [7, 8] (fun cv lv wr => ∃ l cod : Nat, 1 ≤ l ∧ l ≤ 16 ∧ lv = .int .i64 l ∧ cv = .int .i64 cod ∧ cod * 2 = fc ls l ∧ RNew w pr gl zs.length rm ls l 0 wr) (fun _ lv _ => 16 - (intOf lv).toNat)
  case atStart => exact ⟨1, 0, by omega, by omega, rfl, rfl, by simp [fc, cn], H0.out⟩
  case round =>
    obtain ⟨l, cod, hl1, hl16, rfl, rfl, hcod, hrel⟩ := hrel
    have HR := Lib.hid hrel
    clear hrel H0
    by_cases hlt : l ≤ 15
    · have hll : (l : Int) ≤ 15 := by omega
      have hb1 := fc_le HO.out l hlt
      go_wp2
      go_loopw [7, 9] (fun cv sv wr => ∃ s cod : Nat, s ≤ zs.length ∧ sv = .int .i64 s ∧ cv = .int .i64 cod ∧ cod = fc ls l + (ls.take s).count l ∧ RNew w pr gl zs.length rm ls l s wr) (fun _ sv _ => zs.length - (intOf sv).toNat)
      case atStart => exact ⟨0, cod * 2, Nat.zero_le _, rfl, by go_num, by rw [hcod]; simp, HR.out⟩
      case round =>
        obtain ⟨s, cd2, hs, rfl, rfl, hcd2, hrel⟩ := hrel
        have HR2 := Lib.hid hrel
        have HCD := Lib.hid hcd2
        have hcl : (ls.take s).count l ≤ 320 := by
          refine Nat.le_trans List.count_le_length ?_
          rw [List.length_take, HL.out]; omega
        have hcb : cd2 ≤ 40000 := by omega
        clear hrel HR hcd2
        by_cases hlt2 : s < zs.length
        · have hss : (s : Int) < zs.length := by omega
          have hsl : s < ls.length := by rw [HL.out]; exact hlt2
          obtain ⟨b, off, rfl, hcell⟩ := (HI.out.below (by obtain ⟨F, h⟩ := HR2.out; exact h.below)).at hlt2
          rw [HZ.out s hlt2] at hcell
          obtain ⟨n, hn⟩ : ∃ n, n = ln ls s := ⟨_, rfl⟩
          rw [← hn] at hcell
          have HN := Lib.hid hn.symm
          clear hn
          by_cases hnl : n = l
          · subst hnl
            have hne : ((n : Int) != n) = false := by simp
            have HCC : Hid (cd2 = cd ls s) := Lib.hid (by rw [HCD.out]; unfold cd rk; rw [HN.out])
            go_wp2
            go_loopw [10] (fun kv wr => ∃ (j : Nat) (z : Int), j ≤ n ∧ kv = .int .i64 z ∧ z = (n : Int) - 1 - j ∧ RBit w pr gl zs.length rm ls n s j wr) (fun kv _ => (intOf kv + 1).toNat)
            case atStart => exact ⟨0, _, Nat.zero_le _, rfl, by omega, HR2.out.bit HN.out⟩
            case round =>
              obtain ⟨j, z, hj, rfl, hz, F, hF⟩ := hrel
              by_cases hjn : j < n
              · obtain ⟨q, rfl⟩ : ∃ q : Nat, z = (q : Int) := ⟨z.toNat, by omega⟩
                have hq : q = n - 1 - j := by omega
                have hq15 : q ≤ 15 := by omega
                have HQ := Lib.hid hq
                have HRW := Lib.hid hF
                have hown := hF.rows s hlt2
                rw [if_pos rfl] at hown
                have hxl : ((cb ls s).take j).length = j := by rw [List.length_take, cb_len, HN.out]; omega
                obtain ⟨a1, c1, hFs⟩ := own_shape hown
                rw [hxl] at hFs
                rw [hFs] at hown
                have hg1 := (hF.c.cell 0).trans (show _ = some (.slice (some ⟨gl, 0, none⟩) zs.length zs.length) from rfl)
                have hg2 := (hF.l.cell s).trans (va_at _ _ s hlt2)
                rw [hFs] at hg2
                have HFS := Lib.hid hFs
                have HOWN := Lib.hid hown
                have HXL := Lib.hid hxl
                obtain ⟨xs, hxs⟩ : ∃ xs, xs = (cb ls s).take j := ⟨_, rfl⟩
                rw [← hxs] at HOWN HXL
                have HXS := Lib.hid hxs
                have hxl2 : xs.length ≤ 15 := by rw [HXL.out]; omega
                obtain ⟨D, hD⟩ : ∃ D, D = cd2 / 2 ^ q := ⟨_, rfl⟩
                obtain ⟨B, hB⟩ : ∃ B, B = D % 2 := ⟨_, rfl⟩
                have hD32 : D < 4294967296 := by
                  have : cd2 / 2 ^ q ≤ cd2 := Nat.div_le_self _ _
                  omega
                have e0 : IntKind.u64.wrap (q : Int) = q := by rw [IntKind.wrap_u64]; omega
                have e1 : (cd2 : Int) / 2 ^ q = (D : Nat) := by rw [hD]; simp
                have e2 := and_one D hD32
                rw [← hB] at e2
                have hB2 : B ≤ 1 := by omega
                have e3 : IntKind.u8.wrap (B : Int) = B := by rw [IntKind.wrap_u8']; omega
                have HB : Hid (B = cd ls s / 2 ^ (ln ls s - 1 - j) % 2) := Lib.hid (by rw [hB, hD, HCC.out, hq, HN.out])
                have ta := (Touch.refl (fun _ => False) wr).alloc (.cells #[.int .u8 (B : Nat)] 5)
                have hg3 := ((hF.c.touch ta (fun h => h)).cell 0).trans (show _ = some (.slice (some ⟨gl, 0, none⟩) zs.length zs.length) from rfl)
                have hg4 := ((hF.l.touch ta (fun h => h)).cell s).trans (va_at _ _ s hlt2)
                rw [hFs] at hg4
                clear hFs hown hxl hxs hD hB hF hz hq hD32 ta
                go_wp2
                go_region_law (refine step_append_x rfl (.tmp 61) (.tmp 68) rfl w.heap.size (.slice a1 j c1) (.slice (some ⟨wr.heap.size, 0, none⟩) 1 1) xs [B] (by simp [Act.eval]) (by simp [Act.eval]) (World.ownsRow.alloc (w := wr) HOWN.out _) (by_one wr B rfl) (by simp; have := HRW.out.below.size; omega) (by simp; omega) ?_; intro ao2 cc2 w2 hA; rw [← HFS.out] at hA; obtain ⟨m1, m2, m3⟩ := HRW.out.mid hlt2 hA)
                all_goals
                  have HP := Lib.hid (rbit_put HRW.out hlt2 HN.out hjn HB.out (by rw [← HXS.out]; exact hA))
                  clear hA
                  go_wp2_with fail
                  go_roundw
                  case rel => exact ⟨j + 1, _, by omega, rfl, by have := HQ.out; omega, by simpa [HXL.out] using HP.out⟩
                  case measure => first | (simp [intOf]; done) | (simp [intOf]; omega)
              · have hjn' : j = n := by omega
                subst hjn'
                have hz1 : z = -1 := by omega
                subst hz1
                have HW2 := Lib.hid (RBit.whole (⟨F, hF⟩ : RBit w pr gl zs.length rm ls j s j wr) HN.out)
                clear hF hz
                go_wp2
                go_roundw
                case rel => exact ⟨s + 1, cd2 + 1, by omega, by go_num, by go_num, by rw [HCD.out, code_step hsl, if_pos HN.out]; omega, HW2.out⟩
                case measure => simp [intOf]; omega
          · have hne : ((n : Int) != l) = true := by simp; omega
            have HNE : Hid (ln ls s ≠ l) := Lib.hid (by rw [HN.out]; exact hnl)
            go_wp2
            go_roundw
            case rel => exact ⟨s + 1, cd2, by omega, by go_num, rfl, by rw [HCD.out, code_step hsl, if_neg HNE.out]; rfl, by unfold RNew; rw [done_same HNE.out]; exact HR2.out⟩
            case measure => simp [intOf]; omega
        · have hs' : s = zs.length := by omega
          subst hs'
          go_wp2
          go_roundw
          case rel =>
            refine ⟨l + 1, cd2, by omega, by omega, by go_num, rfl, ?_, ?_⟩
            · rw [fc, HCD.out, List.take_of_length_le (by rw [HL.out]; exact Nat.le_refl _)]
              unfold cn
              rw [if_neg (by omega)]
            · obtain ⟨F, h⟩ := HR2.out
              refine ⟨F, ?_⟩
              rw [show done ls (l + 1) 0 = done ls l zs.length from funext fun t => done_next ls l zs.length (by rw [HL.out]; exact Nat.le_refl _) t]
              exact h
          case measure => simp [intOf]; omega
    · have hl' : l = 16 := by omega
      subst hl'
      go_wp2
      go_ret2
      obtain ⟨F, h⟩ := HR.out
      rw [done_all HO.out] at h
      refine ⟨pr, rfl, ⟨gl, rm, F, (h.c.cell 0).trans (by rw [HL.out]; rfl), (h.c.cell 1).trans rfl, fun s hs => ?_⟩, h.below⟩
      rw [HL.out] at hs
      exact ⟨(h.l.cell s).trans (va_at _ _ s hs), BySl.own (h.rows s hs)⟩
end Go.Proofs.Ythgehgdbplbcfaa
