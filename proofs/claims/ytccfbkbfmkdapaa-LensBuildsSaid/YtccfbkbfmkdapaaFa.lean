/-
  Contract of usedOf: the symbols that are used, by their counts.
-/
import Derived.Test.YtccfbkbfmkdapaaSh
import Derived.Test.YtccfbkbfmkdapaaCa
namespace Go.Proofs.Ytccfbkbfmkdapaa
open Go.RowKit Go.Sort

theorem insertion_nil (cx : Nat) (w : World) : Calls Try.prog 48 #[.slice none 0 0, .int .i64 0, .int .i64 0, .func (.func 38) #[] #[.pointer (some ⟨cx, 0, none⟩)]] w fun e w' => e = .returned (.tuple #[]) ∧ w' = w := by
  go_enter Try.func48, Try.ntmps48
  go_wp2
  refine wp_loop_rounds 1 ?_
  rw [rounds_succ]
  go_wp2
  go_end0
  exact ⟨rfl, rfl⟩
theorem stable_nil (cx : Nat) (w : World) : Calls Try.prog 44 #[.slice none 0 0, .int .i64 0, .func (.func 38) #[] #[.pointer (some ⟨cx, 0, none⟩)]] w fun e w' => e = .returned (.tuple #[]) ∧ w' = w := by
  go_enter Try.func44, Try.ntmps44
  go_wp2
  refine wp_loop_rounds 1 ?_
  rw [rounds_succ]
  go_wp2_with (go_at_call 48; refine (insertion_nil cx _).mono ?_; rintro e w' ⟨rfl, rfl⟩)
  refine wp_loop_rounds 1 ?_
  rw [rounds_succ]
  go_wp2
  go_end0
  exact ⟨rfl, rfl⟩
theorem sort_nil (cx : Nat) (w : World) : Calls Try.prog 37 #[.slice none 0 0, .func (.func 38) #[] #[.pointer (some ⟨cx, 0, none⟩)]] w fun e w' => e = .returned (.tuple #[]) ∧ w' = w := by
  go_enter Try.func37, Try.ntmps37
  go_wp2_with (go_at_call 44; refine (stable_nil cx _).mono ?_; rintro e w' ⟨rfl, rfl⟩)
  go_end0
  exact ⟨rfl, rfl⟩

theorem cells_1 (w : World) (e : TypeId) (u : Value) : CellsAt (w.alloc (.cells #[u] e)) (.slice (some ⟨w.heap.size, 0, none⟩) 1 1) 1 [u] := by
  refine .inr ⟨_, 1, rfl, fun j x hx => ?_⟩
  rw [Addr.add_lit, Nat.zero_add, (Blk.made w e _).cell]
  have : j < 1 := (List.getElem?_eq_some_iff.1 hx).1
  obtain rfl : j = 0 := by omega
  simpa using hx
/-- The symbols below k that are used. -/
def usd (ns : List Nat) (k : Nat) : List Nat := (List.range k).filter fun s => decide (0 < ns.getD s 0)
theorem usd_succ (ns : List Nat) (k : Nat) : usd ns (k + 1) = if 0 < ns.getD k 0 then usd ns k ++ [k] else usd ns k := by
  unfold usd
  rw [List.range_succ, List.filter_append, List.filter_cons, List.filter_nil]
  by_cases h : 0 < ns.getD k 0
  · rw [if_pos h, if_pos (decide_eq_true h)]
  · rw [if_neg h, if_neg (by rw [decide_eq_false h]; simp), List.append_nil]
theorem usd_len (ns : List Nat) (k : Nat) : (usd ns k).length ≤ k := by
  have := List.length_filter_le (fun s => decide (0 < ns.getD s 0)) (List.range k)
  simpa [usd] using this
theorem usd_mem {ns : List Nat} {k s : Nat} : s ∈ usd ns k ↔ s < k ∧ 0 < ns.getD s 0 := by simp [usd]

/-- The used symbols by their counts. -/
structure Used (ns us : List Nat) : Prop where
  perm : us.Perm (usd ns ns.length)
  up : Up (cts ns us)
theorem Used.mem {ns us : List Nat} (h : Used ns us) {s : Nat} : s ∈ us ↔ s < ns.length ∧ 0 < ns.getD s 0 := by rw [h.perm.mem_iff, usd_mem]
theorem Used.nodup {ns us : List Nat} (h : Used ns us) : us.Nodup := h.perm.nodup_iff.2 (List.Nodup.sublist List.filter_sublist List.nodup_range)

/-- What usedOf comes to. -/
def UsedTo (ns : List Nat) (w : World) (e : Ending) (w' : World) : Prop :=
  ∃ bo cu us, e = .returned (.slice bo us.length cu) ∧ Used ns us ∧ IS w' bo (ints us) ∧ Below w.heap.size w w' ∧ ∀ b off, bo = some ⟨b, off, none⟩ → w.heap.size ≤ b ∧ b < w'.heap.size

theorem used_of_sorted {ns : List Nat} {d' : Array Nat} (hp : PermIn 0 (usd ns ns.length).toArray.size (usd ns ns.length).toArray d') (ha : Asc (fun s => (ns.getD s 0 : Int)) d' 0 (usd ns ns.length).toArray.size) : Used ns d'.toList := by
  obtain ⟨h1, _, h3⟩ := hp
  have e1 : d'.extract 0 (usd ns ns.length).toArray.size = d' := by rw [← h1]; simp
  have e2 : (usd ns ns.length).toArray.extract 0 (usd ns ns.length).toArray.size = (usd ns ns.length).toArray := by simp
  rw [e1, e2] at h3
  refine ⟨by simpa using h3, List.pairwise_iff_getElem.2 fun i j hi hj hij => ?_⟩
  rw [cts_len] at hi hj
  have hi' : i < d'.size := by simpa using hi
  have hj' : j < d'.size := by simpa using hj
  have := ha i j (Nat.zero_le _) (by omega) (by rw [← h1]; exact hj')
  rw [getElem!_pos d' i hi', getElem!_pos d' j hj'] at this
  have h5 : (ns.getD d'[i] 0 : Int) ≤ (ns.getD d'[j] 0 : Int) := this
  simp only [cts, List.getElem_map, Array.getElem_toList]
  omega

set_option maxHeartbeats 4000000 in
theorem used_any (ao : Option Addr) (c : Nat) (ns : List Nat) (w : World) (h : IS w ao (ints ns)) (hl : ns.length ≤ 320) :
    Calls Try.prog 23 #[.slice ao ns.length c] w (UsedTo ns w) := by
  have HI := Lib.hid h
  clear h
  go_enter Try.func23, Try.ntmps23
  go_wp2
  obtain ⟨cx, hcx⟩ : ∃ cx, cx = w.heap.size := ⟨_, rfl⟩
  have HCX := Lib.hid hcx
  have H0 : Hid (Blk (w.alloc (.cells #[.slice ao ns.length c] 22)) cx 22 #[.slice ao ns.length c] ∧ Below w.heap.size w (w.alloc (.cells #[.slice ao ns.length c] 22)) ∧ (w.alloc (.cells #[.slice ao ns.length c] 22)).ownsRow (cx + 1) 3 1 (.slice none 0 0) (usd ns 0).length (iv (ints (usd ns 0))) ∧ cx + 1 ≤ (w.alloc (.cells #[.slice ao ns.length c] 22)).heap.size) :=
    Lib.hid ⟨by rw [hcx]; exact Blk.made _ _ _, (Below.refl _ w).alloc (Nat.le_refl _) _, World.ownsRow_nil _ _ _ _, by rw [hcx]; simp⟩
  rw [← hcx]
  clear hcx
  go_loopw [3, 8] (fun v iv' wr => ∃ (k : Nat) (bo : Option Addr) (cu : Nat), k ≤ ns.length ∧ iv' = .int .i64 k ∧ v = .slice bo (usd ns k).length cu ∧ Blk wr cx 22 #[.slice ao ns.length c] ∧ Below w.heap.size w wr ∧ wr.ownsRow (cx + 1) 3 1 (.slice bo (usd ns k).length cu) (usd ns k).length (iv (ints (usd ns k))) ∧ cx + 1 ≤ wr.heap.size) (fun _ iv' _ => ns.length - (intOf iv').toNat)
  case atStart => exact ⟨0, none, 0, Nat.zero_le _, rfl, rfl, H0.out⟩
  case round =>
    obtain ⟨k, bo, cu, hk, rfl, rfl, hbx, hb, hown, hcs⟩ := hrel
    have HBX := Lib.hid hbx
    have HB := Lib.hid hb
    have HO := Lib.hid hown
    have hul := usd_len ns k
    clear hbx hb hown H0
    by_cases hlt : k < ns.length
    · have hkk : (k : Int) < ns.length := by omega
      obtain ⟨b1, o1, rfl, q1⟩ := (HI.out.below HB.out).nat hlt
      obtain ⟨x, hx⟩ : ∃ x, x = ns.getD k 0 := ⟨_, rfl⟩
      have HU := Lib.hid (usd_succ ns k)
      rw [← hx] at q1 HU
      obtain ⟨P, hP⟩ : ∃ P, P = usd ns k := ⟨_, rfl⟩
      rw [← hP] at HO HU hul ⊢
      by_cases h0 : 0 < x
      · have h0' : (0 : Int) < x := by omega
        rw [if_pos h0] at HU
        clear hP hx
        go_wp2_with (refine wpList_append_g at22 rfl (.tmp 15) (.tmp 17) rfl (cx + 1) (.slice bo P.length cu) (.slice (some ⟨wr.heap.size, 0, none⟩) 1 1) P.length 1 (iv (ints P)) [.int .i64 (k : Nat)] rfl rfl (World.ownsRow.alloc (w := wr) HO.out _) (cells_1 wr 3 _) rfl (by simp [Value.oneCell']) (by simp; omega) (by omega) (by omega) ?_; intro ao2 cc2 w3 hA; have HA := Lib.hid hA; clear hA)
        go_roundw
        case rel =>
          have hlen : (usd ns (k + 1)).length = P.length + 1 := by rw [HU.out]; simp
          have hA := HA.out
          have hBe := hA.below (World.ownsRow.alloc (w := wr) HO.out _) (by simp; omega)
          have tA : Touch (fun _ => False) wr (wr.alloc (.cells #[.int .i64 (k : Nat)] 3)) := (Touch.refl _ wr).alloc _
          refine ⟨k + 1, ao2, cc2, by omega, by go_num, by rw [hlen], ?_, ?_, ?_, ?_⟩
          · exact (HBX.out.touch tA (fun h => h)).low hBe (by omega)
          · exact (HB.out.alloc HB.out.size _).trans (hBe.mono (by rw [← HCX.out]; omega))
          · have := hA.own
            rw [hlen, HU.out]
            rw [show iv (ints (P ++ [k])) = iv (ints P) ++ [.int .i64 (k : Nat)] by simp [iv, ints]]
            exact this
          · exact Nat.le_trans hcs (Nat.le_trans (by simp) hBe.size)
        case measure => simp [intOf]; omega
      · have h0' : (x : Int) ≤ 0 := by omega
        rw [if_neg h0] at HU
        clear hP hx
        go_wp2
        go_roundw
        case rel => exact ⟨k + 1, bo, cu, by omega, by go_num, by rw [HU.out], HBX.out, HB.out, by rw [HU.out]; exact HO.out, hcs⟩
        case measure => simp [intOf]; omega
    · have hk' : k = ns.length := by omega
      subst hk'
      rcases HO.out.2 with ⟨e, h0⟩ | ⟨g, cap, cur, e, hbg, hh, hnc, hcm, hcs2, htake⟩
      · simp only [Value.slice.injEq] at e
        obtain ⟨rfl, _, rfl⟩ := e
        have he : usd ns ns.length = [] := List.eq_nil_of_length_eq_zero h0
        rw [h0]
        go_wp2_with (go_at_call 37; refine (sort_nil cx _).mono ?_; rintro e w' ⟨rfl, rfl⟩)
        go_ret
        exact ⟨none, 0, [], rfl, ⟨by rw [he], by simp [cts, Up]⟩, .inl rfl, HB.out, fun b off e => by cases e⟩
      · simp only [Value.slice.injEq] at e
        obtain ⟨rfl, _, rfl⟩ := e
        obtain ⟨d, hd⟩ : ∃ d, d = (usd ns ns.length).toArray := ⟨_, rfl⟩
        have hds : d.size = (usd ns ns.length).length := by rw [hd]; simp
        have hS : Srt wr g ns.length d wr := by
          refine ⟨fun i hi => ?_, fun i hi => ?_, Touch.refl _ _, (Array.getElem?_eq_some_iff.1 hh).1, fun i hi => ?_⟩
          · have h5 := World.ownsRow.cellAt HO.out i (by omega)
            rw [h5, iv_at _ i (by rw [ints_len]; omega), ints_at, getElem!_pos d i hi]
            have h6 : d[i] = (usd ns ns.length).getD i 0 := by simp [hd, List.getD, show i < (usd ns ns.length).length by omega]
            rw [h6]
          · have hh' : Blk wr g 3 cur := hh
            exact hh'.free i
          · rw [getElem!_pos d i hi]
            have h6 : d[i] ∈ usd ns ns.length := by simp [hd]
            exact (usd_mem.1 h6).1
        have hgw : w.heap.size ≤ g := by rw [← HCX.out]; omega
        have hC : Cmp (fun s => (ns.getD s 0 : Int)) ns.length cx g wr := fun W hT x y hx hy => by
          have h1 := (HBX.out.touch hT (by omega)).cell 0
          have h2 : IS W ao (ints ns) := (HI.out.below HB.out).touch hT fun b off e hne => by
            rcases HI.out with h | ⟨b', off', rfl, hc⟩
            · exact absurd h hne
            · have e' := Option.some.inj e
              simp only [Addr.mk.injEq] at e'
              have h7 := World.block_lt_of_cell? w ⟨b', off' + 0, none⟩ (hc 0 (by rw [ints_len]; omega))
              have h8 : b' < w.heap.size := h7
              omega
          obtain ⟨b1, o1, rfl, q1⟩ := h2.nat hx
          obtain ⟨b2, o2, e2, q2⟩ := h2.nat hy
          obtain ⟨rfl, rfl⟩ : b1 = b2 ∧ o1 = o2 := by simpa using e2
          exact less_any cx b1 o1 c ns.length _ _ x y hx hy W h1 q1 q2
        have HR := Lib.hid (sortStable_any _ cx g ns.length cu d wr wr hC hS (by omega))
        rw [hds] at HR
        have HD := Lib.hid hd
        have hgl : g < wr.heap.size := (Array.getElem?_eq_some_iff.1 hh).1
        clear hS hC hh htake hcs2 hds hd
        go_wp2_with (go_at_call 37; (with_reducible refine HR.out.mono ?_); rintro e w' ⟨rfl, d', hR1⟩; have HR1 := Lib.hid hR1; clear hR1)
        go_ret
        have hU : Used ns d'.toList := by
          refine used_of_sorted ?_ ?_
          · rw [← HD.out]; exact HR1.out.perm
          · rw [← HD.out]; exact HR1.out.asc
        have hl' : (usd ns ns.length).length = d'.toList.length := hU.perm.length_eq.symm
        refine ⟨some ⟨g, 0, none⟩, cu, d'.toList, by rw [← hl']; rfl, hU, .inr ⟨g, 0, rfl, fun j hj => ?_⟩, ?_, fun b off e => ?_⟩
        · rw [ints_len] at hj
          have hj' : j < d'.size := by simpa using hj
          have h9 := HR1.out.s.cell j hj'
          rw [Nat.zero_add, h9, ints_at, getElem!_pos d' j hj']
          simp [List.getD, hj']
        · exact HB.out.trans (HR1.out.s.touch.below HB.out.size fun k hk => by omega)
        · cases e
          exact ⟨hgw, Nat.lt_of_lt_of_le hgl HR1.out.s.touch.size⟩
end Go.Proofs.Ytccfbkbfmkdapaa
