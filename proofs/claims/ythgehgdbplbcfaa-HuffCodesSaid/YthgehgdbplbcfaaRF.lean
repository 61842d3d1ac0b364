/-
  HuffReads: what both answer is the same; the walk.
-/
import Derived.Test.YthgehgdbplbcfaaRE
import Derived.Test.YthgehgdbplbcfaaRC
namespace Go.Proofs.Ythgehgdbplbcfaa
open Go.RowKit

section
variable {ls bs : List Nat} {L at_ s : Nat} {w w' : World} {e : Ending}
theorem agree_ok (H : Ok ls) (hL : 8 * bs.length = L) (hat : at_ ≤ L) (hbeg : Beg ls (ahead bs at_) s) (hle : at_ + ln ls s ≤ L) (k : RNextTo ls (rbits bs L) at_ w e w') :
    e = .returned (.tuple #[.int .i64 s, .int .i64 (ln ls s : Nat), .int .i64 0]) := by
  have hf := beg_fits H hL hat hbeg
  rcases k.1 with ⟨t, n, rfl, hn0, hft, hlt, he⟩ | ⟨hno, _, _⟩ | ⟨hno, _, _⟩
  · rw [rbits_len] at hlt
    obtain rfl := beg_one H hbeg (full_beg H hL hat hn0 hft hlt)
    exact he
  · have := hno s (ln_lt hbeg.1) hbeg.1 hf
    rw [rbits_len] at this
    omega
  · have : anyFt ls (rbits bs L) at_ ls.length = true := (anyFt_iff _ _ _ _).2 ⟨s, ln_lt hbeg.1, hbeg.1, hf⟩
    rw [hno] at this
    cases this
theorem agree_end (H : Ok ls) (hL : 8 * bs.length = L) (hat : at_ ≤ L) (hc : at_ = L ∨ Beg ls (ahead bs at_) s ∧ L < at_ + ln ls s) (k : RNextTo ls (rbits bs L) at_ w e w') :
    e = .returned (.tuple #[.int .i64 0, .int .i64 0, .int .i64 15]) := by
  rcases k.1 with ⟨t, n, rfl, hn0, hft, hlt, he⟩ | ⟨_, _, he⟩ | ⟨hno, hlt, _⟩
  · rw [rbits_len] at hlt
    exfalso
    rcases hc with rfl | ⟨hb, hl⟩
    · omega
    · obtain rfl := beg_one H hb (full_beg H hL hat hn0 hft hlt)
      omega
  · exact he
  · rw [rbits_len] at hlt
    exfalso
    rcases hc with rfl | ⟨hb, hl⟩
    · omega
    · have : anyFt ls (rbits bs L) at_ ls.length = true := (anyFt_iff _ _ _ _).2 ⟨s, ln_lt hb.1, hb.1, beg_fits H hL hat hb⟩
      rw [hno] at this
      cases this
theorem agree_form (H : Ok ls) (hB : Bs bs) (hL : 8 * bs.length = L) (hat : at_ < L) (hr : room ls ≤ ahead bs at_) (k : RNextTo ls (rbits bs L) at_ w e w') :
    e = .returned (.tuple #[.int .i64 0, .int .i64 0, .int .i64 10]) := by
  rcases k.1 with ⟨t, n, rfl, hn0, hft, hlt, he⟩ | ⟨hno, hc, _⟩ | ⟨_, _, he⟩
  · rw [rbits_len] at hlt
    exact absurd (full_beg H hL (by omega) hn0 hft hlt) (none_of H hr t)
  · rw [rbits_len] at hc
    exfalso
    rcases hc with hc | hc
    · obtain ⟨t, ht, h0, hf⟩ := (anyFt_iff _ _ _ _).1 hc
      have h1 := hno t ht h0 hf
      rw [rbits_len] at h1
      have := fits_room H hB hL (by omega) h0 hf h1
      omega
    · omega
  · exact he
end

theorem RAt.below {w w' : World} {p : Nat} {ls : List Nat} (h : RAt w p ls) (hb : Below w.heap.size w w') : RAt w' p ls := by
  obtain ⟨gl, rm, F, h1, h2, h3⟩ := h
  have keep : ∀ {a : Addr} {v : Value}, w.cell? a = some v → w'.cell? a = some v := fun hc => (hb.cell (World.block_lt_of_cell? w _ hc)).trans hc
  refine ⟨gl, rm, F, keep h1, keep h2, fun s hs => ⟨keep (h3 s hs).1, ?_⟩⟩
  rcases (h3 s hs).2 with h | ⟨ad, c, e, hc, hcell⟩
  · exact .inl h
  · exact .inr ⟨ad, c, e, hc, fun j u hu => keep (hcell j u hu)⟩
theorem BySl.grow {w w' : World} {v : Value} {xs : List Nat} (h : BySl w v xs) (hb : Below w.heap.size w w') : BySl w' v xs := by
  rcases h with h | ⟨ad, c, e, hc, hcell⟩
  · exact .inl h
  · exact .inr ⟨ad, c, e, hc, fun j u hu => (hb.cell (World.block_lt_of_cell? w _ (hcell j u hu))).trans (hcell j u hu)⟩

/-- The head of the loop that lays the bits. -/
def Lay (w : World) (bs : List Nat) (i : Nat) (v : Value) (wr : World) : Prop := ∃ (ro : Option Addr) (rc : Nat), v = .slice ro i rc ∧ wr.ownsRow w.heap.size 5 1 (.slice ro i rc) i (u8s (rbits bs i)) ∧ Below w.heap.size w wr
theorem and_u8 (x : Nat) (hx : x < 256) : bits BinOp.and IntKind.u8 (x : Int) 1 = ((x % 2 : Nat) : Int) := by
  rw [show (1 : Int) = ((1 : Nat) : Int) from rfl, u8_and_nat x 1 hx (by omega), Nat.and_one_is_mod]

theorem lay_row {wr : World} {B L rc : Nat} {ro : Option Addr} {bs : List Nat} (hown : wr.ownsRow B 5 1 (.slice ro L rc) L (u8s (rbits bs L))) : BySl wr (.slice ro (rbits bs L).length rc) (rbits bs L) := by
  rw [rbits_len]
  have h : wr.ownsRow B 5 1 (.slice ro L rc) (rbits bs L).length (u8s (rbits bs L)) := by rw [rbits_len]; exact hown
  exact BySl.own h
theorem lay_next {w wr w6 : World} {bs xs : List Nat} {k B : Nat} {v v' : Value} {o : Obj} (hx : xs = rbits bs k) (hB : B = num bs / 2 ^ k % 2) (hb : Below w.heap.size w wr) (hown : wr.ownsRow w.heap.size 5 1 v k (u8s xs)) {ao : Option Addr} {cc : Nat} (hv : v' = .slice ao (k + 1) cc) (hA : Apd (wr.alloc o) w.heap.size v (xs ++ [B]) v' w6) : Lay w bs (k + 1) v' w6 := by
  subst hv
  have hl : (xs ++ [B]).length = k + 1 := by rw [List.length_append, hx, rbits_len]; rfl
  refine ⟨ao, cc, rfl, ?_, (hb.alloc hb.size o).trans (hA.touch.below (by simp; have := hb.size; omega) fun j hj => (hown.lt j hj).1)⟩
  have := hA.own
  rw [hl] at this
  rw [rbits_succ, ← hB, ← hx]
  exact this

set_option maxRecDepth 100000 in
set_option maxHeartbeats 6400000 in
theorem reads_ok (ao : Option Addr) (c : Nat) (zs : List Int) (bo : Option Addr) (bc : Nat) (bs : List Nat) (sk : Nat) (w : World) (h : IS w ao zs) (hv : Vd zs) (hm : room (nat zs) ≤ 32768) (hb : Bs bs) (hbs : BySl w (.slice bo bs.length bc) bs) (hb3 : bs.length ≤ 300) (hsk : sk ≤ 8 * bs.length) :
    Calls Try.prog 4 #[.slice ao zs.length c, .slice bo bs.length bc, .int .i64 sk] w fun e w' => e = .returned (.bool true) ∧ Below w.heap.size w w' := by
  have HI := Lib.hid h
  have HV := Lib.hid hv
  have HM := Lib.hid hm
  have HBB := Lib.hid hb
  have HBS := Lib.hid hbs
  have hl : (zs.length : Int) ≤ 320 := by have := hv.len; omega
  have hb3' : (bs.length : Int) ≤ 300 := by omega
  have hsk' : (sk : Int) ≤ 8 * bs.length := by omega
  have HO : Hid (Ok (nat zs)) := Lib.hid ⟨by rw [nat_len]; exact hv.len, fun x hx => by
    obtain ⟨z, hz, rfl⟩ := List.mem_map.1 hx
    have := hv.all z hz
    omega, hm⟩
  clear h hv hm hb hbs
  go_enter Try.func4, Try.ntmps4
  go_wp2_with fail
  refine (alive_any w).mono ?_
  rintro e w1 ⟨rfl, hb1⟩
  go_wp2_with fail
  refine (New_ok ao c zs _ (HI.out.below hb1) HV.out HM.out).mono ?_
  rintro e w2 ⟨p, rfl, hc, hb2⟩
  have hb12 := hb1.trans (hb2.mono hb1.size)
  go_wp2_with fail
  refine (rnew_ok ao c zs (nat zs) _ (HI.out.below hb12) HV.out HO.out rfl).mono ?_
  rintro e w3 ⟨pr, rfl, hra, hb3⟩
  have HC := Lib.hid (hc.below hb3)
  have HRA := Lib.hid hra
  have HB : Hid (Below w.heap.size w w3) := Lib.hid (hb12.trans (hb3.mono hb12.size))
  have HL := Lib.hid (nat_len zs)
  obtain ⟨ls, hls⟩ : ∃ ls, ls = nat zs := ⟨_, rfl⟩
  rw [← hls] at HC HL HRA HO
  clear hc hb1 hb2 hb12 hra hb3 hls HM
  have HBS3 := Lib.hid (HBS.out.grow HB.out)
  have HS0 : Hid (Lay w3 bs 0 (.slice (some ⟨w3.heap.size, 0, none⟩) 0 0) (w3.alloc (.cells #[] 5))) := Lib.hid ⟨_, _, rfl, own_empty w3, (Below.refl _ _).alloc (Nat.le_refl _) _⟩
  go_wp2
  go_loopw [11, 12] (fun v i wr => ∃ k : Nat, k ≤ 8 * bs.length ∧ i = .int .i64 k ∧ Lay w3 bs k v wr) (fun _ i _ => 8 * bs.length - (intOf i).toNat)
  case atStart => exact ⟨0, Nat.zero_le _, rfl, HS0.out⟩
  case round =>
    obtain ⟨k, hk, rfl, ro, rc, rfl, hown, hbel⟩ := hrel
    have HOW := Lib.hid hown
    have HBE := Lib.hid hbel
    clear hown hbel HS0
    by_cases hlt : k < 8 * bs.length
    · have hkk : (k : Int) < 8 * bs.length := by omega
      obtain ⟨b, off, rfl, hcell⟩ := (HBS3.out.grow HBE.out).get (k / 8) (by omega)
      have hbit := byte_bit HBB.out k
      have hy := HBB.out.at (k / 8)
      obtain ⟨y, hye⟩ : ∃ y, y = bs.getD (k / 8) 0 := ⟨_, rfl⟩
      rw [← hye] at hcell hbit hy
      obtain ⟨q, hq⟩ : ∃ q, q = k / 8 := ⟨_, rfl⟩
      obtain ⟨r, hr⟩ : ∃ r, r = k % 8 := ⟨_, rfl⟩
      rw [← hq] at hcell
      rw [← hr] at hbit
      have i1 : (k : Int) / 8 = (q : Nat) := by omega
      have i2 : (k : Int) % 8 = (r : Nat) := by omega
      have i3 : (q : Int) < bs.length := by omega
      have hr7 : r < 8 := by omega
      obtain ⟨D, hD⟩ : ∃ D, D = y / 2 ^ r := ⟨_, rfl⟩
      rw [← hD] at hbit
      have hD256 : D < 256 := Nat.lt_of_le_of_lt (hD ▸ Nat.div_le_self _ _) hy
      have e1 : (y : Int) / 2 ^ r = (D : Nat) := by rw [hD]; simp
      have e2 := and_u8 D hD256
      obtain ⟨B, hB⟩ : ∃ B, B = D % 2 := ⟨_, rfl⟩
      rw [← hB] at hbit e2
      have HBIT := Lib.hid hbit
      have hlen : (rbits bs k).length = k := rbits_len bs k
      have HXL := Lib.hid hlen
      obtain ⟨xs, hxs⟩ : ∃ xs, xs = rbits bs k := ⟨_, rfl⟩
      rw [← hxs] at HOW HXL
      have HXS := Lib.hid hxs
      have hxl : xs.length ≤ 3000 := by rw [HXL.out]; omega
      clear hye hq hr hD hB hbit hlen hxs hy hD256
      go_wp2_with (refine wpList_append_x rfl (.tmp 74) (.tmp 85) rfl w3.heap.size (.slice ro k rc) (.slice (some ⟨wr.heap.size, 0, none⟩) 1 1) xs [B] rfl rfl (by rw [HXL.out]; exact World.ownsRow.alloc HOW.out _) (by_one wr B rfl) (by have := HBE.out.size; simp; omega) (by simp; omega) ?_; intro ao2 cc2 w6 hA; rw [show (xs ++ [B]).length = k + 1 by rw [List.length_append, HXL.out]; rfl] at hA ⊢; have HLN := Lib.hid (lay_next HXS.out HBIT.out HBE.out HOW.out rfl hA); clear hA)
      go_roundw
      case rel => exact ⟨k + 1, by omega, by go_num, HLN.out⟩
      case measure => simp [intOf]; omega
    · have hk' : k = 8 * bs.length := by omega
      have HLE := Lib.hid hk'.symm
      have HRB := Lib.hid (lay_row HOW.out)
      have hkL : k ≤ 8 * bs.length := by omega
      have hkG : 8 * bs.length ≤ k := by omega
      clear hk' hlt hk
      have HC4 := Lib.hid (HC.out.below HBE.out)
      have HA4 := Lib.hid (HRA.out.below HBE.out)
      have HS4 := Lib.hid (HBS3.out.grow HBE.out)
      have HB4 : Hid (Below w.heap.size w wr) := Lib.hid (HB.out.trans (HBE.out.mono HB.out.size))
      have hsL : sk ≤ k := by omega
      clear HOW HBE
      go_wp2_with fail
      refine (newReader_T HS4.out HBB.out (by omega)).mono ?_
      rintro e w5 ⟨pq, rfl, hr⟩
      have HR := Lib.hid hr
      clear hr
      go_wp2_with fail
      refine (HR.out.skip (by omega) sk (by omega)).mono ?_
      rintro e w6 ⟨rfl, hr⟩
      have HR6 := Lib.hid hr
      rw [Nat.zero_add] at HR6
      clear hr HR
      have hk24 : k ≤ 2400 := by omega
      have hls := HO.out.len
      have HK : Hid (∀ a : Nat, a ≤ k → ∀ W, Below wr.heap.size wr W → Calls Try.prog 22 #[.pointer (some ⟨pr, 0, none⟩), .slice ro k rc, .int .i64 a] W (RNextTo ls (rbits bs k) a W)) := Lib.hid fun a ha W hW => by
        have h1 := rnext_any pr ls ro rc (rbits bs k) a W (HA4.out.below hW) (HRB.out.grow hW) hls (ln_le HO.out) (by rw [rbits_len]; omega) (by rw [rbits_len]; exact ha)
        rw [rbits_len] at h1
        exact h1
      go_wp2
      go_loopw [14] (fun av wr2 => ∃ a : Nat, a ≤ k ∧ av = .int .i64 a ∧ RdT wr wr2 pq bs a) (fun av _ => k - (intOf av).toNat)
      case atStart => exact ⟨sk, hsL, rfl, HR6.out⟩
      case round =>
        obtain ⟨a, ha, rfl, hrel⟩ := hrel
        have HR := Lib.hid hrel
        clear hrel HR6
        rcases finds_some (p := p) HO.out (ahead_lt bs a) with ⟨s, hs, hf⟩ | ⟨hro, hf⟩
        · have hl15 := ln_le HO.out s
          by_cases hle : a + ln ls s ≤ k
          · have HS := Lib.hid hs
            have hn0 : 1 ≤ ln ls s := by have := hs.1; omega
            clear hs hf
            go_wp2_with fail
            refine (Next_ok HC4.out HR.out (by omega) s HS.out (by omega)).mono ?_
            rintro e w7 ⟨rfl, hr⟩
            have hb7 := RdT.below hr
            have HR7 := Lib.hid hr
            clear hr
            go_wp2_with fail
            refine (HK.out a ha _ hb7).mono ?_
            intro e w8 hk8
            obtain ⟨q8, rfl⟩ := hk8.2
            obtain rfl := agree_ok HO.out HLE.out ha HS.out hle hk8
            clear hk8 hb7
            have HR8 := Lib.hid (HR7.out.drewN q8)
            obtain ⟨n, hn⟩ : ∃ n, n = ln ls s := ⟨_, rfl⟩
            rw [← hn] at HR8 hn0 hle hl15 ⊢
            clear hn HR7
            have hss : ((s : Int) != s) = false := by simp
            go_wp2_with (go_at_call 23; (refine HR8.out.at.mono ?_); rintro e w9 ⟨rfl, rfl⟩)
            go_roundw
            case rel => exact ⟨a + n, by omega, by go_num, HR8.out⟩
            case measure => simp [intOf]; omega
          · have HS := Lib.hid hs
            clear hs
            go_wp2_with fail
            refine (next_no HC4.out HR.out (by omega) (by omega) _ _ hl15 hf 15 (.inl ⟨rfl, .inl (by omega)⟩)).mono ?_
            rintro e w7 ⟨rfl, hr⟩
            have hb7 := RdT.below hr
            have HR7 := Lib.hid hr
            clear hr
            go_wp2_with fail
            refine (HK.out a ha _ hb7).mono ?_
            intro e w8 hk8
            obtain ⟨q8, rfl⟩ := hk8.2
            obtain rfl := agree_end HO.out HLE.out ha (.inr ⟨HS.out, by omega⟩) hk8
            clear hk8 hb7
            have HR8 := Lib.hid (HR7.out.drewN q8)
            have haa : ((a : Int) != a) = false := by simp
            go_wp2_with (go_at_call 23; (refine HR8.out.at.mono ?_); rintro e w9 ⟨rfl, rfl⟩)
            go_ret
            exact ⟨rfl, HB4.out.trans ((RdT.below HR8.out).mono HB4.out.size)⟩
        · by_cases hak : a = k
          · have HAK := Lib.hid hak
            have HC8 : Hid (a = 8 * bs.length) := Lib.hid (by rw [HLE.out]; exact hak)
            clear hak hro
            go_wp2_with fail
            refine (next_no HC4.out HR.out (by omega) (by omega) _ _ (by omega) hf 15 (.inl ⟨rfl, .inr HC8.out⟩)).mono ?_
            rintro e w7 ⟨rfl, hr⟩
            have hb7 := RdT.below hr
            have HR7 := Lib.hid hr
            clear hr
            go_wp2_with fail
            refine (HK.out a ha _ hb7).mono ?_
            intro e w8 hk8
            obtain ⟨q8, rfl⟩ := hk8.2
            obtain rfl := agree_end (s := 0) HO.out HLE.out ha (.inl HAK.out) hk8
            clear hk8 hb7
            have HR8 := Lib.hid (HR7.out.drewN q8)
            have haa : ((a : Int) != a) = false := by simp
            go_wp2_with (go_at_call 23; (refine HR8.out.at.mono ?_); rintro e w9 ⟨rfl, rfl⟩)
            go_ret
            exact ⟨rfl, HB4.out.trans ((RdT.below HR8.out).mono HB4.out.size)⟩
          · have HRO := Lib.hid hro
            clear hro
            go_wp2_with fail
            refine (next_no HC4.out HR.out (by omega) (by omega) _ _ (by omega) hf 10 (.inr ⟨rfl, rfl, by omega⟩)).mono ?_
            rintro e w7 ⟨rfl, hr⟩
            have hb7 := RdT.below hr
            have HR7 := Lib.hid hr
            clear hr
            go_wp2_with fail
            refine (HK.out a ha _ hb7).mono ?_
            intro e w8 hk8
            obtain ⟨q8, rfl⟩ := hk8.2
            obtain rfl := agree_form HO.out HBB.out HLE.out (by omega) HRO.out hk8
            clear hk8 hb7
            have HR8 := Lib.hid (HR7.out.drewN q8)
            have haa : ((a : Int) != a) = false := by simp
            go_wp2_with (go_at_call 23; (refine HR8.out.at.mono ?_); rintro e w9 ⟨rfl, rfl⟩)
            go_ret
            exact ⟨rfl, HB4.out.trans ((RdT.below HR8.out).mono HB4.out.size)⟩
end Go.Proofs.Ythgehgdbplbcfaa
