/-
  The sum with bytes behind: the program's, and the reference's.
-/
import Derived.Test.YtbepppbpllljdaaDoorG
namespace Go.Proofs.YtbepppbpllljdaaDoor
open Go.RowKit CrcPlain

/-- Numbers below 256. -/
def Bs (l : List Nat) : Prop := ∀ x ∈ l, x < 256
theorem Bs.at {a : List Nat} (ha : Bs a) (k : Nat) : a.getD k 0 < 256 := by
  rw [List.getD_eq_getElem?_getD]
  cases h : a[k]? with
  | none => simp
  | some x => simpa using ha x (List.mem_of_getElem? h)

/-- A slice's address at which these bytes lie. -/
def Src (w : World) (ao : Option Addr) (xs : List Nat) : Prop :=
  xs = [] ∨ ∃ b off, ao = some ⟨b, off, none⟩ ∧ ∀ j, j < xs.length → w.cell? ⟨b, off + j, none⟩ = some (.int .u8 (xs.getD j 0 : Nat))

theorem Src.below {w w' : World} {ao : Option Addr} {xs : List Nat} (h : Src w ao xs) (hb : Below w.heap.size w w') : Src w' ao xs := by
  rcases h with h | ⟨b, off, rfl, hc⟩
  · exact .inl h
  · exact .inr ⟨b, off, rfl, fun j hj => by
      have := hc j hj
      exact (hb.cell (World.block_lt_of_cell? w _ this)).trans this⟩

theorem shift8 (x : BitVec 32) : Int.ofNat x.toNat / (256 : Int) = Int.ofNat (x >>> 8).toNat := by
  rw [BitVec.toNat_ushiftRight, Nat.shiftRight_eq_div_pow]; simp

set_option maxHeartbeats 1000000 in
theorem update_any (s : BitVec 32) (ao : Option Addr) (cap : Nat) (xs : List Nat) (w : World) (hl : xs.length ≤ 1000000000000000) (hb : Bs xs) (hs : Src w ao xs) :
    Calls Tryd.prog 11 #[.int .u32 (s.toNat : Int), .slice ao xs.length cap] w fun e w' => e = .returned (.int .u32 ((updN s xs).toNat : Int)) ∧ Below w.heap.size w w' := by
  have HBS := Lib.hid hb
  have HSR := Lib.hid hs
  have hnot := b_not s
  obtain ⟨z, hz⟩ : ∃ z, z = ~~~ s := ⟨_, rfl⟩
  rw [← hz] at hnot
  have HE : Hid (updN s xs = ~~~ (feed z (bv xs))) := Lib.hid (by rw [hz, updN])
  clear hb hs hz
  go_enter Tryd.func11, Tryd.ntmps11
  go_wp2_with (first
    | (go_at_call 19; refine (made_any _).mono ?_; rintro e w1 ⟨rfl, hb1⟩; have HB1 := Lib.hid hb1; clear hb1)
    | (refine wpList_alloc_z rfl 41 rfl _ z41' ?_; intro W2 hb ht hs; have HZ : Hid (One 41 w w1.heap.size (arr 256 fun _ => 0#32) W2) := Lib.hid ⟨hb, HB1.out.trans ((ht.below (Nat.le_refl _) fun _ h => h.elim).mono HB1.out.size), HB1.out.size⟩; obtain ⟨p, hp⟩ : ∃ p, p = w1.heap.size := ⟨_, rfl⟩; rw [← hp] at HZ; rw [← hp]; clear hb ht hs hp; go_simp)
    | (refine wpList_store_row rfl 41 (.tmp 5) (.tmp 9) rfl rfl p rfl _ rfl 41 _ HZ.out.c i41 (by rw [arr_size, arr_size]) (arr_one 256 _) ?_; intro W3 hb3 ht3 hs3; have HM : Hid (One 41 w p (arr 256 tabF) W3) := Lib.hid (HZ.out.set hb3 ht3); clear hb3 ht3 hs3))
  clear HZ HB1 hnot
  have HS3 := Lib.hid (HSR.out.below HM.out.below)
  go_loop [6, 14] (fun xv iv => ∃ k : Nat, k ≤ xs.length ∧ iv = .int .i64 k ∧ xv = .int .u32 ((feed z (bv (xs.take k))).toNat : Int)) (fun _ iv => xs.length - (intOf iv).toNat)
  case atStart => exact ⟨0, Nat.zero_le _, rfl, by simp [bv, feed]⟩
  case round =>
    obtain ⟨k, hk, rfl, rfl⟩ := hrel
    by_cases hlt : k < xs.length
    · have hkk : (k : Int) < xs.length := by omega
      rcases HS3.out with h | ⟨b, off, rfl, hc⟩
      · rw [h] at hlt; simp at hlt
      · have hcell := hc k hlt
        have hcb := HBS.out.at k
        have HN : Hid (feed z (bv (xs.take (k + 1))) = hvs 8 (feed z (bv (xs.take k)) ^^^ BitVec.ofNat 32 (xs.getD k 0))) := Lib.hid (by rw [take_next xs k hlt, feed_snoc _ _ _ hcb])
        clear hc
        obtain ⟨c, hcc⟩ : ∃ c, c = xs.getD k 0 := ⟨_, rfl⟩
        obtain ⟨x, hx⟩ : ∃ x, x = feed z (bv (xs.take k)) := ⟨_, rfl⟩
        rw [← hcc] at hcell hcb HN
        rw [← hx] at HN ⊢
        clear hcc hx
        obtain ⟨i, hi⟩ : ∃ i, i = x.toNat % 256 ^^^ c := ⟨_, rfl⟩
        have hm : x.toNat % 256 < 2 ^ 8 := Nat.mod_lt _ (by omega)
        have hil : i < 256 := by rw [hi]; exact Nat.xor_lt_two_pow hm (by omega)
        have hix : bits BinOp.xor IntKind.u8 ((x.toNat : Int) % 256) (c : Int) = (i : Int) := by
          rw [show (x.toNat : Int) % 256 = ((x.toNat % 256 : Nat) : Int) from by omega, u8_xor_nat _ _ (by omega) hcb, hi]
        have hcell2 := (HM.out.c.cell i).trans (arr_at 256 tabF i hil)
        have HF : Hid (bits BinOp.xor IntKind.u32 ((x.toNat : Int) / 256) ((tabF i).toNat : Int) = ((feed z (bv (xs.take (k + 1)))).toNat : Int)) := Lib.hid (by
          rw [HN.out, hvs_byte x c hcb, ← hi]
          exact (congrArg (fun q => bits BinOp.xor IntKind.u32 q ((tabF i).toNat : Int)) (shift8 x)).trans (b_xor _ _))
        have hx32 := x.isLt
        clear hi hm
        go_wp2
        go_round
        case rel => exact ⟨k + 1, by omega, by go_num, by rw [HF.out]⟩
        case measure => simp [intOf]; omega
    · have hk' : k = xs.length := by omega
      subst hk'
      rw [List.take_length]
      obtain ⟨y, hy⟩ : ∃ y, y = feed z (bv xs) := ⟨_, rfl⟩
      have h1 := b_not y
      obtain ⟨v, hv⟩ : ∃ v, v = ~~~ y := ⟨_, rfl⟩
      have HV : Hid (updN s xs = v) := Lib.hid (by rw [hv, hy]; exact HE.out)
      rw [← hy]
      rw [← hv] at h1
      clear hy hv
      go_wp2
      go_ret
      exact ⟨ret_int (by rw [HV.out]), HM.out.below⟩

set_option maxHeartbeats 400000 in
theorem rupdate_any (s : BitVec 32) (ao : Option Addr) (cap : Nat) (xs : List Nat) (w : World) (hl : xs.length ≤ 1000000000000000) (hb : Bs xs) (hs : Src w ao xs) :
    Calls Tryd.prog 12 #[.int .u32 (s.toNat : Int), .slice ao xs.length cap] w fun e w' => e = .returned (.int .u32 ((updN s xs).toNat : Int)) ∧ w = w' := by
  have HBS := Lib.hid hb
  have HSR := Lib.hid hs
  have hnot := b_not s
  obtain ⟨z, hz⟩ : ∃ z, z = ~~~ s := ⟨_, rfl⟩
  rw [← hz] at hnot
  have HE : Hid (updN s xs = ~~~ (feed z (bv xs))) := Lib.hid (by rw [hz, updN])
  clear hb hs hz
  go_enter Tryd.func12, Tryd.ntmps12
  go_wp2
  clear hnot
  go_loop [5, 6] (fun xv iv => ∃ k : Nat, k ≤ xs.length ∧ iv = .int .i64 k ∧ xv = .int .u32 ((feed z (bv (xs.take k))).toNat : Int)) (fun _ iv => xs.length - (intOf iv).toNat)
  case atStart => exact ⟨0, Nat.zero_le _, rfl, by simp [bv, feed]⟩
  case round =>
    obtain ⟨k, hk, rfl, rfl⟩ := hrel
    by_cases hlt : k < xs.length
    · have hkk : (k : Int) < xs.length := by omega
      rcases HSR.out with h | ⟨b, off, rfl, hc⟩
      · rw [h] at hlt; simp at hlt
      · have hcell := hc k hlt
        have hcb := HBS.out.at k
        have HN : Hid (feed z (bv (xs.take (k + 1))) = hvs 8 (feed z (bv (xs.take k)) ^^^ BitVec.ofNat 32 (xs.getD k 0))) := Lib.hid (by rw [take_next xs k hlt, feed_snoc _ _ _ hcb])
        clear hc
        obtain ⟨c, hcc⟩ : ∃ c, c = xs.getD k 0 := ⟨_, rfl⟩
        obtain ⟨x, hx⟩ : ∃ x, x = feed z (bv (xs.take k)) := ⟨_, rfl⟩
        rw [← hcc] at hcell hcb HN
        rw [← hx] at HN ⊢
        clear hcc hx
        go_wp2_with (go_at_call 20; refine (one_any x c hcb _).mono ?_; rintro e w' ⟨rfl, rfl⟩)
        go_round
        case rel => exact ⟨k + 1, by omega, by go_num, by rw [HN.out]⟩
        case measure => simp [intOf]; omega
    · have hk' : k = xs.length := by omega
      subst hk'
      rw [List.take_length]
      obtain ⟨y, hy⟩ : ∃ y, y = feed z (bv xs) := ⟨_, rfl⟩
      have h1 := b_not y
      obtain ⟨v, hv⟩ : ∃ v, v = ~~~ y := ⟨_, rfl⟩
      have HV : Hid (updN s xs = v) := Lib.hid (by rw [hv, hy]; exact HE.out)
      rw [← hy]
      rw [← hv] at h1
      clear hy hv
      go_wp2
      go_ret
      exact ⟨ret_int (by rw [HV.out]), rfl⟩

theorem sum_any (ao : Option Addr) (cap : Nat) (xs : List Nat) (w : World) (hl : xs.length ≤ 1000000000000000) (hb : Bs xs) (hs : Src w ao xs) :
    Calls Tryd.prog 9 #[.slice ao xs.length cap] w fun e w' => e = .returned (.int .u32 ((updN 0#32 xs).toNat : Int)) ∧ Below w.heap.size w w' := by
  have HP := Lib.hid (update_any 0#32 ao cap xs w hl hb hs)
  obtain ⟨y, hy⟩ : ∃ y, y = updN 0#32 xs := ⟨_, rfl⟩
  rw [← hy] at HP ⊢
  clear hl hb hs hy
  go_enter Tryd.func9, Tryd.ntmps9
  go_wp2_with (go_at_call 11; refine HP.out.mono ?_; rintro e w1 ⟨rfl, hb1⟩)
  go_ret
  exact ⟨rfl, hb1⟩

theorem rsum_any (ao : Option Addr) (cap : Nat) (xs : List Nat) (w : World) (hl : xs.length ≤ 1000000000000000) (hb : Bs xs) (hs : Src w ao xs) :
    Calls Tryd.prog 10 #[.slice ao xs.length cap] w fun e w' => e = .returned (.int .u32 ((updN 0#32 xs).toNat : Int)) ∧ w = w' := by
  have HP := Lib.hid (rupdate_any 0#32 ao cap xs w hl hb hs)
  obtain ⟨y, hy⟩ : ∃ y, y = updN 0#32 xs := ⟨_, rfl⟩
  rw [← hy] at HP ⊢
  clear hl hb hs hy
  go_enter Tryd.func10, Tryd.ntmps10
  go_wp2_with (go_at_call 12; refine HP.out.mono ?_; rintro e w1 ⟨rfl, rfl⟩)
  go_ret
  exact ⟨rfl, rfl⟩
end Go.Proofs.YtbepppbpllljdaaDoor
