/-
  Contract of giveCodes: the codes are given to the symbols.
-/
import Derived.Test.YthgehgdbplbcfaaN
import Derived.StillTailTactics
namespace Go.Proofs.Ythgehgdbplbcfaa
open Go.RowKit

def Gave (w : World) (pc : Nat) (ls : List Nat) (e : Ending) (w' : World) : Prop := e = .returned (.tuple #[]) ∧ CodeAt w' pc ls ∧ Touch (fun k => k = pc) w w'

theorem wz (n : Nat) : va (n * 2) (fun i => (Value.agg #[.int .u32 0, .int .i64 0]).cells[i % (Value.agg #[.int .u32 0, .int .i64 0]).cells.size]!) = va (n * 2) (fun i => if i % 2 = 0 then .int .u32 0 else .int .i64 0) := by
  refine va_congr fun i _ => ?_
  show #[Value.int .u32 0, .int .i64 0][i % 2]! = _
  rcases Nat.mod_two_eq_zero_or_one i with h | h <;> rw [h] <;> rfl

theorem iz (n : Nat) : va (n * 1) (fun i => (Value.int .i64 0).cells[i % (Value.int .i64 0).cells.size]!) = va n (fun _ => .int .i64 0) := by
  rw [Nat.mul_one]
  refine va_congr fun i _ => ?_
  show #[Value.int .i64 0][i % 1]! = _
  rw [Nat.mod_one]
  rfl

/-- The code, its words and its order, and whatever has come behind. -/
structure St (w : World) (pc gw go : Nat) (CC W O : Array Value) (wr : World) : Prop where
  c : Blk wr pc 68 CC
  wd : Blk wr gw 71 W
  od : Blk wr go 3 O
  touch : Touch (fun k => k = pc) w wr
  lo : pc < w.heap.size ∧ w.heap.size ≤ gw ∧ gw < go
theorem St.grow {w wr w' : World} {pc gw go : Nat} {CC W O : Array Value} (h : St w pc gw go CC W O wr) (hb : Below wr.heap.size wr w') : St w pc gw go CC W O w' :=
  ⟨h.c.below hb, h.wd.below hb, h.od.below hb, h.touch.trans' (Touch.of_below hb) (fun _ e _ => e), h.lo⟩
theorem St.other {w wr w' : World} {pc gw go g : Nat} {CC W O : Array Value} (h : St w pc gw go CC W O wr) (ht : Touch (fun k => k = g) wr w') (hg : go < g) (hw : w.heap.size ≤ g) : St w pc gw go CC W O w' := by
  have := h.lo
  exact ⟨h.c.touch ht (by omega), h.wd.touch ht (by omega), h.od.touch ht (by omega), h.touch.trans' ht (fun i e hi => by omega), h.lo⟩
theorem St.go {w wr w' : World} {pc gw go : Nat} {CC W O : Array Value} (h : St w pc gw go CC W O wr) (hb : Touch (fun _ => False) wr w') : St w pc gw go CC W O w' :=
  h.grow (hb.below (Nat.le_refl _) fun _ h => h.elim)

/-- Behind k symbols. -/
def GvK (w : World) (pc gw go pp pk N : Nat) (ls : List Nat) (k : Nat) (wr : World) : Prop :=
  ∃ F, Ordered ls k F ∧ Gv w pc gw go pp pk (cc (.slice (some ⟨gw, 0, none⟩) N N) (.slice (some ⟨go, 0, none⟩) (many ls) (many ls)) (fc ls) (cn ls)) (va (N * 2) (wordK ls k)) (va (many ls) F) (ia 16 (run_ (fp ls) ls k)) (ia 16 (run_ (fc ls) ls k)) wr

set_option maxHeartbeats 3200000 in
theorem give_any (ao : Option Addr) (c : Nat) (zs : List Int) (ls : List Nat) (w : World) (pc : Nat) (h : IS w ao zs) (H : Ok ls) (hlen : ls.length = zs.length) (hz : ∀ k, k < zs.length → zs.getD k 0 = (ln ls k : Nat))
    (hb : Blk w pc 68 (cc (.slice none 0 0) (.slice none 0 0) (fc ls) (cn ls))) (hne : ∀ b off, ao = some ⟨b, off, none⟩ → zs ≠ [] → ¬ b = pc) :
    Calls Try.prog 32 #[.pointer (some ⟨pc, 0, none⟩), .slice ao zs.length c] w (Gave w pc ls) := by
  have HI := Lib.hid h
  have HO := Lib.hid H
  have HL := Lib.hid hlen
  have HZ := Lib.hid hz
  have HB := Lib.hid hb
  have HN := Lib.hid hne
  have hl := H.len
  have hzl : zs.length ≤ 320 := by omega
  have hmany : many ls ≤ 5120 := fp_le ls hl 16
  clear h H hlen hz hb hne hl
  have hpc := HB.out.lt
  have hf0 := HB.out.free 0
  have hc0 := (HB.out.cell 0).trans (cc_0 _ _ _ _)
  go_enter Try.func32, Try.ntmps32
  go_upto_region 1 with (refine wpList_make_z rfl 66 (.tmp 10) (.tmp 10) rfl 71 (.agg #[.int .u32 0, .int .i64 0]) 2 16 zs.length Try.underlying66 (by kernel_rfl) .i64 .i64 _ _ rfl rfl rfl rfl (by omega) (by omega) ?_; intro W hb1 ht1 hs1; have hg0 := (HB.out.touch ht1 (fun h => h)).free 0; have hd0 := ((HB.out.touch ht1 (fun h => h)).cell 0).trans (cc_0 _ _ _ _); have HS1 := Lib.hid hs1; clear hs1)
  obtain ⟨gw, hgw⟩ : ∃ gw, gw = w.heap.size := ⟨_, rfl⟩
  have HS1 := HS1.out
  rw [← hgw]
  rw [← hgw, wz, ← word_zero ls] at hb1
  rw [← hgw] at HS1
  have HC1 := Lib.hid (Blk.setCell (HB.out.touch ht1 (fun h => h)) 0 (.slice (some ⟨gw, 0, none⟩) zs.length zs.length))
  rw [cc_set0] at HC1
  have HW1 := Lib.hid (hb1.other 0 (.slice (some ⟨gw, 0, none⟩) zs.length zs.length) (g' := pc) (by omega))
  have HT1 := Lib.hid ((ht1.mono (T := fun k => k = pc) (fun _ h => h.elim)).setCell ⟨pc, 0, none⟩ (.slice (some ⟨gw, 0, none⟩) zs.length zs.length) (.inl rfl))
  have HS1' : Hid ((W.setCell ⟨pc, 0, none⟩ (.slice (some ⟨gw, 0, none⟩) zs.length zs.length)).heap.size = gw + 1) := Lib.hid (by simpa [World.setCell] using HS1)
  have HG := Lib.hid hgw
  clear hgw hb1 ht1 HS1 hg0 hd0 hf0 hc0
  generalize W.setCell ⟨pc, 0, none⟩ (.slice (some ⟨gw, 0, none⟩) zs.length zs.length) = W1 at *
  clear HB
  go_upto_region 2 with (first
    | (refine wpList_load_il rfl (.tmp 17) rfl pc 18 rfl (cn ls) (cc_rg HC1.out) ?_)
    | (go_at_call 40; (refine (sum_any ls HO.out.len _).mono ?_); rintro e w2 ⟨rfl, hb2⟩; have HB2 := Lib.hid hb2; clear hb2)
    | (refine wpList_make_z rfl 22 (.tmp 19) (.tmp 19) rfl 3 (.int .i64 0) 1 8 (many ls) Try.underlying22 (by kernel_rfl) .i64 .i64 _ _ rfl rfl rfl rfl (by omega) (by omega) ?_; intro W hb1 ht1 hs1; have HC2 := Lib.hid ((HC1.out.below HB2.out).touch ht1 (fun h => h)); have hg0 := HC2.out.free 1; have hd0 := (HC2.out.cell 1).trans (cc_1 _ _ _ _); have HS2 := Lib.hid hs1; clear hs1))
  obtain ⟨go, hgo⟩ : ∃ go, go = w2.heap.size := ⟨_, rfl⟩
  rw [← hgo]
  rw [← hgo, iz] at hb1
  have HG2 := Lib.hid hgo
  have hlt2 : gw < go := by
    have := HB2.out.size
    have := HS1'.out
    rw [hgo]; omega
  have HA : Hid (St w pc gw go (cc (.slice (some ⟨gw, 0, none⟩) zs.length zs.length) (.slice (some ⟨go, 0, none⟩) (many ls) (many ls)) (fc ls) (cn ls)) (va (zs.length * 2) (wordK ls 0)) (va (many ls) fun _ => .int .i64 0) (W.setCell ⟨pc, 1, none⟩ (.slice (some ⟨go, 0, none⟩) (many ls) (many ls)))) := by
    have hlt1 : pc < gw := by rw [HG.out]; exact hpc
    refine Lib.hid ⟨?_, ((HW1.out.below HB2.out).touch ht1 (fun h => h)).other _ _ (by omega), hb1.other _ _ (by omega), ?_, hpc, by rw [HG.out]; exact Nat.le_refl _, hlt2⟩
    · have := HC2.out.setCell 1 (.slice (some ⟨go, 0, none⟩) (many ls) (many ls))
      rwa [cc_set1] at this
    · exact (HT1.out.trans' ((Touch.of_below HB2.out).trans ht1) (fun _ h _ => h.elim)).setCell _ _ (.inl rfl)
  clear HC2 HB2 HW1 HT1 HC1 hb1 ht1 hg0 hd0 HS2 HG2 hgo HS1'
  generalize W.setCell ⟨pc, 1, none⟩ (.slice (some ⟨go, 0, none⟩) (many ls) (many ls)) = W2 at *
  go_upto_region 3 with (first
    | (refine wpList_load_il rfl (.tmp 25) rfl pc 18 rfl (cn ls) (cc_rg HA.out.c) ?_)
    | (go_at_call 41; (refine (places_any ls HO.out.len _).mono ?_); rintro e w3 ⟨rfl, hb3⟩; have HA3 := Lib.hid (HA.out.grow hb3); clear hb3)
    | (refine wpList_alloc_z rfl 61 rfl _ z61 ?_; intro W3 hb3 ht3 hs3; have HA4 := Lib.hid (HA3.out.go ht3); have HS3 := Lib.hid hs3; clear hs3)
    | (refine wpList_store_row rfl 61 (.tmp 4) (.tmp 27) rfl rfl w3.heap.size rfl _ rfl 61 _ hb3 i61 (by simp only [va_size]) (ia_one 16 _) ?_; intro W4 hb4 ht4 hs4; have HS4 := Lib.hid hs4; clear hs4))
  obtain ⟨pp, hpp⟩ : ∃ pp, pp = w3.heap.size := ⟨_, rfl⟩
  have hgp : go < pp := by rw [hpp]; exact HA3.out.od.lt
  have hwp : w.heap.size ≤ pp := by have := HA3.out.lo; omega
  rw [← hpp]
  rw [← hpp] at ht4 hb4
  have HA5 := Lib.hid (HA4.out.other ht4 hgp hwp)
  have HP5 := Lib.hid hb4
  clear HA3 HA4 HA hb3 ht3 HS3 hb4 ht4 HS4 hpp
  go_upto_region 4 with (first
    | (refine wpList_load_il rfl (.tmp 30) rfl pc 2 rfl (fc ls) (cc_rf HA5.out.c) ?_)
    | (refine wpList_alloc_z rfl 61 rfl _ z61 ?_; intro W6 hb6 ht6 hs6; have HS6 := Lib.hid hs6; clear hs6)
    | (refine wpList_store_row rfl 61 (.tmp 5) (.tmp 31) rfl rfl W4.heap.size rfl _ rfl 61 _ hb6 i61 (by simp only [va_size]) (ia_one 16 _) ?_; intro W7 hb7 ht7 hs7; have HS7 := Lib.hid hs7; clear hs7))
  obtain ⟨pk, hpk⟩ : ∃ pk, pk = W4.heap.size := ⟨_, rfl⟩
  have hpk2 : pp < pk := by rw [hpk]; exact HP5.out.lt
  rw [← hpk]
  rw [← hpk] at ht7 hb7
  have HR0 : Hid (Gv w pc gw go pp pk (cc (.slice (some ⟨gw, 0, none⟩) zs.length zs.length) (.slice (some ⟨go, 0, none⟩) (many ls) (many ls)) (fc ls) (cn ls)) (va (zs.length * 2) (wordK ls 0)) (va (many ls) fun _ => .int .i64 0) (ia 16 (fp ls)) (ia 16 (fc ls)) W7) := by
    have H := (HA5.out.go ht6).other ht7 (by omega) (by omega)
    have := HA5.out.lo
    exact Lib.hid ⟨H.c, H.wd, H.od, (HP5.out.touch ht6 (fun h => h)).touch ht7 (by omega), hb7, H.touch, by omega, by omega, by omega, by omega, by omega⟩
  clear HA5 HP5 hb6 ht6 HS6 hb7 ht7 HS7 hpk
  go_wp2
  have HR1 : Hid (GvK w pc gw go pp pk zs.length ls 0 W7) := Lib.hid ⟨_, (fun s h => absurd h (Nat.not_lt_zero s)), by rw [run_zero, run_zero]; exact HR0.out⟩
  clear HR0
  go_loopw [34] (fun i wr => ∃ k : Nat, k ≤ zs.length ∧ i = .int .i64 k ∧ GvK w pc gw go pp pk zs.length ls k wr) (fun i _ => zs.length - (intOf i).toNat)
  case atStart => exact ⟨0, Nat.zero_le _, rfl, HR1.out⟩
  case round =>
    obtain ⟨k, hk, rfl, F, hF, hrel⟩ := hrel
    have HF := Lib.hid hF
    have HR := Lib.hid hrel
    clear hrel hF HR1
    by_cases hlt : k < zs.length
    · have hkk : (k : Int) < zs.length := by omega
      have hkl : k < ls.length := by rw [HL.out]; exact hlt
      obtain ⟨b, off, rfl, hcell⟩ := (HI.out.touch HR.out.touch (fun b off e hx => HN.out b off e hx)).at hlt
      obtain ⟨n, hn⟩ : ∃ n, n = ln ls k := ⟨_, rfl⟩
      have hn15 : n ≤ 15 := by rw [hn]; exact ln_le HO.out k
      rw [HZ.out k hlt, ← hn] at hcell
      have HX := Lib.hid hn
      clear hn
      by_cases h0 : n = 0
      · subst h0
        go_wp2
        go_roundw
        case rel => exact ⟨k + 1, by omega, by go_num, F, ordered_same HF.out HX.out.symm, by rw [word_same HX.out.symm, run_same _ hkl HX.out.symm, run_same _ hkl HX.out.symm]; exact HR.out⟩
        case measure => simp [intOf]; omega
      · have hb0 : ((n : Int) == 0) = false := by simp; omega
        have hn0 : 1 ≤ n := by omega
        have hl0 : ln ls k ≠ 0 := by rw [← HX.out]; exact h0
        have hx := cd_lt HO.out hl0
        have hp15 : 2 ^ ln ls k ≤ 2 ^ 15 := Nat.pow_le_pow_right (by omega) (ln_le HO.out k)
        have hy := fp_lt HO.out hl0
        obtain ⟨x, hxe⟩ : ∃ x, x = cd ls k := ⟨_, rfl⟩
        obtain ⟨y, hye⟩ : ∃ y, y = fp ls (ln ls k) + rk ls k := ⟨_, rfl⟩
        rw [← hxe] at hx
        rw [← hye] at hy
        have hx15 : x < 32768 := by omega
        clear hx hp15
        have HXE := Lib.hid hxe
        have HYE := Lib.hid hye
        have HL0 := Lib.hid hl0
        clear hxe hye hl0 h0
        have g0 := (HR.out.c.cell 0).trans (cc_0 _ _ _ _)
        have g1 := (HR.out.cs.cell n).trans (va_at 16 _ n (by omega))
        rw [show run_ (fc ls) ls k n = x by rw [HXE.out, HX.out, run_at _ HL0.out]; rfl] at g1
        have g2 := HR.out.wd.free (k * 2)
        have g3 := HR.out.wd.free (k * 2 + 1)
        have g4 := (HR.out.wd.cell (k * 2)).trans (va_at _ _ (k * 2) (by omega))
        have g5 := (HR.out.wd.cell (k * 2 + 1)).trans (va_at _ _ (k * 2 + 1) (by omega))
        have e1 : (n : Int) < 16 := by omega
        have e2 : (n : Int) ≤ 32 := by omega
        have e3 : IntKind.u32.wrap (x : Int) = x := by rw [IntKind.wrap_u32']; omega
        have hlo := HR.out.lo
        have n1 : ¬ pc = gw := by omega
        have n2 : ¬ gw = pc := by omega
        have n3 : ¬ pk = gw := by omega
        have n4 : ¬ gw = pk := by omega
        have HLO := Lib.hid hlo
        clear hlo
        go_wp2_with fail
        go_region_held3 (fun w' => w'.cell? ⟨pc, 0, none⟩ = some (.slice (some ⟨gw, 0, none⟩) zs.length zs.length) ∧ w'.cell? ⟨pk, n, none⟩ = some (.int .i64 (x : Nat))) (go_keep)
          (first | (go_at_call 28; refine (reverse_yes x n _ (by omega) (by omega)).mono ?_; rintro e w' ⟨rfl, rfl⟩))
        have HR8 := Lib.hid (((HR.out.setW (k * 2) (.int .u32 (rv n x : Nat))).setW (k * 2 + 1) (.int .i64 (n : Nat))).drew)
        rw [show rv n x = rv (ln ls k) (cd ls k) by rw [HX.out, HXE.out], show (n : Int) = (ln ls k : Nat) by rw [HX.out], word_step] at HR8
        rw [show rv (ln ls k) (cd ls k) = rv n x by rw [HX.out, HXE.out], show ((ln ls k : Nat) : Int) = n by rw [HX.out]] at HR8
        clear HR g0 g1 g2 g3 g4 g5 n1 n2 n3 n4
        rename_i hSw
        clear hSw
        generalize ((wr.setCell ⟨gw, k * 2, none⟩ (.int .u32 (rv n x : Nat))).setCell ⟨gw, k * 2 + 1, none⟩ (.int .i64 (n : Nat))).drew = w8 at *
        have g0 := (HR8.out.c.cell 1).trans (cc_1 _ _ _ _)
        have g1 := (HR8.out.pl.cell n).trans (va_at 16 _ n (by omega))
        rw [show run_ (fp ls) ls k n = y by rw [HYE.out, HX.out, run_at _ HL0.out]] at g1
        have g2 := HR8.out.od.free y
        have g3 := (HR8.out.od.cell y).trans (va_at _ _ y hy)
        have e4 : (y : Int) < many ls := by omega
        have e5 : (0 : Int) ≤ y := by omega
        go_wp2
        go_still_tail 9, (by kernel_rfl)
        change wpList _ _ _ _ _ w8.drew
        go_upto_region 10 with (fail)
        have HR9 := Lib.hid ((HR8.out.setO y (.int .i64 (k : Nat))).drew)
        rw [va_set] at HR9
        clear HR8 g0 g1 g2 g3 e4 e5
        generalize (w8.setCell ⟨go, y, none⟩ (.int .i64 (k : Nat))).drew = w9 at *
        have g1 := (HR9.out.cs.cell n).trans (va_at 16 _ n (by omega))
        have g2 := HR9.out.cs.free n
        rw [show run_ (fc ls) ls k n = x by rw [HXE.out, HX.out, run_at _ HL0.out]; rfl] at g1
        go_upto_region 11 with (fail)
        have HR10 := Lib.hid (HR9.out.setK n (.int .i64 ((x + 1 : Nat) : Int)))
        rw [ia_set 16 _ (run_ (fc ls) ls (k + 1)) n (x + 1) (fun i _ => by rw [run_step _ hkl HL0.out, HXE.out, HX.out, run_at _ HL0.out]; rfl)] at HR10
        clear HR9 g1 g2
        rw [show ((x : Int) + 1) = ((x + 1 : Nat) : Int) by omega]
        generalize w9.setCell ⟨pk, n, none⟩ (.int .i64 ((x + 1 : Nat) : Int)) = w10 at *
        have g1 := (HR10.out.pl.cell n).trans (va_at 16 _ n (by omega))
        have g2 := HR10.out.pl.free n
        rw [show run_ (fp ls) ls k n = y by rw [HYE.out, HX.out, run_at _ HL0.out]] at g1
        go_wp2
        have HR11 := HR10.out.setP n (.int .i64 ((y + 1 : Nat) : Int))
        rw [ia_set 16 _ (run_ (fp ls) ls (k + 1)) n (y + 1) (fun i _ => by rw [run_step _ hkl HL0.out, HYE.out, HX.out, run_at _ HL0.out])] at HR11
        go_roundw
        case rel => exact ⟨k + 1, by omega, by go_num, _, by have := ordered_step HF.out HL0.out; rw [← HYE.out] at this; exact this, by simpa using HR11⟩
        case measure => simp [intOf]; omega
    · have hk' : k = zs.length := by omega
      subst hk'
      go_wp2
      go_end0
      have h1 := HR.out
      rw [← HL.out, word_all] at h1
      exact ⟨rfl, ⟨HO.out, gw, go, F, h1.c, h1.wd, h1.od, by have := HF.out; rwa [← HL.out] at this⟩, h1.touch⟩
end Go.Proofs.Ythgehgdbplbcfaa
