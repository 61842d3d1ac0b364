/-
  ReplaceAll, Lines, TrimPrefix, Strip.
-/
import Derived.Test.YtmnkdnlmpgmdgaaDoorUh
import Derived.Lib.SlBytesConst
namespace Go.Proofs.YtmnkdnlmpgmdgaaDoor
open Go.RowKit U
set_option maxRecDepth 100000

/-- A slice of these bytes. -/
def SlTo (L : List Nat) (w : World) (e : Ending) (w' : World) : Prop := ∃ ao c, e = .returned (.slice ao L.length c) ∧ Sl w' ao c L ∧ Below w.heap.size w w'
theorem OwnB.sl {L : List Nat} {w : World} {e : Ending} {w' : World} (hb : Bs L) (h : OwnB L w e w') : SlTo L w e w' := by
  obtain ⟨ao, c, he, ho, hw⟩ := h
  exact ⟨ao, c, he, own_sl ho hb, hw⟩
theorem sl_text (w : World) (xs : List Nat) (cs : Array Value) (n q : Nat) (z : Nat × Nat) (hq : q = w.heap.size) (hn : xs.length = n) (hc : cs = (u8s xs).toArray) (hb : Bs xs) (hm : n ≤ 1000) : Sl (w.alloc (.cells cs 5 z)) (some ⟨q, 0, none⟩) n xs := by
  subst hq hn hc
  refine ⟨.inr ⟨w.heap.size, 0, rfl, fun j hj => ?_⟩, Nat.le_refl _, by unfold maxLen; omega, (fun h => by cases h), hb⟩
  rw [Nat.zero_add, cell_of_row _ _ j _ 5 z (heap_alloc_new w _)]
  simpa using u8s_at xs j hj
theorem all2 (ao a2 a3 : Option Addr) (c c2 c3 : Nat) (s : List Nat) (w : World) (h : Sl w ao c s) (h2 : Sl w a2 c2 [13, 10]) (h3 : Sl w a3 c3 [10]) (hm : s.length ≤ 1000000) (hT : TU w) :
    Calls Tryd.prog 39 #[.slice ao s.length c, .slice a2 2 c2, .slice a3 1 c3] w (SlTo (r1 s) w) := by
  have K := replace2 ao a2 a3 c c2 c3 s w h h2 h3 hm hT
  rw [rplA_r1 h.bs] at K
  have K := Lib.hid (K.mono fun e w' h' => h'.sl (r1_bs h.bs))
  obtain ⟨L, hL⟩ : ∃ L, L = r1 s := ⟨_, rfl⟩
  rw [← hL] at K ⊢
  clear h h2 h3 hT hL
  go_enter Tryd.func39, Tryd.ntmps39
  go_wp2_with (go_at_call 45; (with_reducible refine K.out.mono ?_); rintro e w1 ⟨a4, c4, rfl, hs, hb⟩; have HS := Lib.hid hs; have HB := Lib.hid hb; clear hs hb)
  go_ret
  exact ⟨a4, c4, rfl, HS.out, HB.out⟩
theorem r2_bs {s : List Nat} (hb : Bs s) : Bs (r2 s) := by
  rw [← rplA_r2 hb]; exact rpl_bs (fun x hx => by simp at hx; omega) _ _ hb
theorem all1 (ao a2 a3 : Option Addr) (c c2 c3 : Nat) (s : List Nat) (w : World) (h : Sl w ao c s) (h2 : Sl w a2 c2 [13]) (h3 : Sl w a3 c3 [10]) (hm : s.length ≤ 1000000) (hT : TU w) :
    Calls Tryd.prog 39 #[.slice ao s.length c, .slice a2 1 c2, .slice a3 1 c3] w (SlTo (r2 s) w) := by
  have K := replace1 ao a2 a3 c c2 c3 s w h h2 h3 hm hT
  rw [rplA_r2 h.bs] at K
  have K := Lib.hid (K.mono fun e w' h' => h'.sl (r2_bs h.bs))
  obtain ⟨L, hL⟩ : ∃ L, L = r2 s := ⟨_, rfl⟩
  rw [← hL] at K ⊢
  clear h h2 h3 hT hL
  go_enter Tryd.func39, Tryd.ntmps39
  go_wp2_with (go_at_call 45; (with_reducible refine K.out.mono ?_); rintro e w1 ⟨a4, c4, rfl, hs, hb⟩; have HS := Lib.hid hs; have HB := Lib.hid hb; clear hs hb)
  go_ret
  exact ⟨a4, c4, rfl, HS.out, HB.out⟩

theorem conv_two (w : World) (D C : Array Value) (z : Nat × Nat) (n c : Nat) : (convert 22 22 (.slice (some ⟨w.heap.size + 1, 0, none⟩) n c)).run Tryd.prog ((w.alloc (.cells D 5 z)).alloc (.cells C 5)) = .ok (.slice (some ⟨w.heap.size + 1, 0, none⟩) n c) ((w.alloc (.cells D 5 z)).alloc (.cells C 5 (C.size, C.size + 1))) := by
  have := Lib.run_convert_bytes_const (P := Tryd.prog) (w.alloc (.cells D 5 z)) 22 5 C n c Tryd.underlying22 Tryd.underlying5
  rwa [alloc_size] at this
set_option maxHeartbeats 1600000 in
theorem Lines_any (ao : Option Addr) (c : Nat) (s : List Nat) (w : World) (h : Sl w ao c s) (hm : s.length ≤ 1000000) (hT : TU w) :
    Calls Tryd.prog 28 #[.slice ao s.length c] w (SlTo (lin false s) w) := by
  have hc := fun (w : World) (C : Array Value) (n c : Nat) => Lib.run_convert_bytes_const (P := Tryd.prog) w 22 5 C n c Tryd.underlying22 Tryd.underlying5
  have hc2 := conv_two
  obtain ⟨W1, hW1⟩ : ∃ W1, W1 = w.alloc (.cells #[.int .u8 13, .int .u8 10] 5 (2, 3)) := ⟨_, rfl⟩
  obtain ⟨W2, hW2⟩ : ∃ W2, W2 = W1.alloc (.cells #[.int .u8 10] 5 (1, 2)) := ⟨_, rfl⟩
  have hz1 : W1.heap.size = w.heap.size + 1 := by rw [hW1, alloc_size]
  have b1 : Below w.heap.size w W1 := by rw [hW1]; exact (Below.refl _ w).alloc (Nat.le_refl _) _
  have b12 : Below W1.heap.size W1 W2 := by rw [hW2]; exact (Below.refl _ W1).alloc (Nat.le_refl _) _
  have b2 : Below w.heap.size w W2 := b1.trans (b12.mono b1.size)
  have s1 : Sl W2 (some ⟨w.heap.size, 0, none⟩) 2 [13, 10] := Sl.below (by rw [hW1]; exact sl_text w [13, 10] _ 2 _ _ rfl rfl rfl (fun x hx => by simp at hx; omega) (by decide)) b12
  have s2 : Sl W2 (some ⟨w.heap.size + 1, 0, none⟩) 1 [10] := by rw [hW2]; exact sl_text W1 [10] _ 1 _ _ hz1.symm rfl rfl (fun x hx => by simp at hx; omega) (by decide)
  have K1 := all2 ao _ _ c 2 1 s W2 (h.below b2) s1 s2 hm (hT.grow b2)
  have hr1 := r1_len s
  rw [← lin_r s]
  obtain ⟨L, hL⟩ : ∃ L, L = r1 s := ⟨_, rfl⟩
  rw [← hL] at K1 hr1 ⊢
  have KX : Hid (∀ (W : World) (a : Option Addr) (c : Nat), Sl W a c L → TU W → Calls Tryd.prog 39 #[.slice a L.length c, .slice (some ⟨W.heap.size, 0, none⟩) 1 1, .slice (some ⟨W.heap.size + 1, 0, none⟩) 1 1] ((W.alloc (.cells #[.int .u8 13] 5 (1, 2))).alloc (.cells #[.int .u8 10] 5 (1, 2))) fun e w' => SlTo (r2 L) W e w') := Lib.hid fun W a c hs hT => by
    have b1 : Below W.heap.size W (W.alloc (.cells #[.int .u8 13] 5 (1, 2))) := (Below.refl _ W).alloc (Nat.le_refl _) _
    have b12 : Below (W.alloc (.cells #[.int .u8 13] 5 (1, 2))).heap.size (W.alloc (.cells #[.int .u8 13] 5 (1, 2))) ((W.alloc (.cells #[.int .u8 13] 5 (1, 2))).alloc (.cells #[.int .u8 10] 5 (1, 2))) := (Below.refl _ _).alloc (Nat.le_refl _) _
    have b2 := b1.trans (b12.mono b1.size)
    refine (all1 a _ _ c 1 1 L _ (hs.below b2) (Sl.below (sl_text W [13] _ 1 _ _ rfl rfl rfl (fun x hx => by simp at hx; omega) (by decide)) b12) (sl_text _ [10] _ 1 _ _ (alloc_size _ _).symm rfl rfl (fun x hx => by simp at hx; omega) (by decide)) (by omega) (hT.grow b2)).mono ?_
    rintro e w' ⟨ao, c', he, hs', hb'⟩
    exact ⟨ao, c', he, hs', b2.trans (hb'.mono b2.size)⟩
  have HK1 := Lib.hid K1
  have HB2 := Lib.hid b2
  have HT2 := Lib.hid (hT.grow b2)
  obtain ⟨Z, hZ⟩ : ∃ Z, Z = L.length := ⟨_, rfl⟩
  unfold SlTo at HK1
  rw [← hZ] at HK1 KX
  obtain ⟨M, hM⟩ : ∃ M, M = r2 L := ⟨_, rfl⟩
  rw [← hM] at KX ⊢
  clear h hT hz1 b1 b12 b2 s1 s2 hL hr1 K1 hZ hM
  go_enter Tryd.func28, Tryd.ntmps28
  go_wp2_with (first
    | (rw [← hW1, ← hW2]; clear hW1 hW2; go_at_call 39; (with_reducible refine HK1.out.mono ?_); rintro e w3 ⟨a4, c4, rfl, hs, hb⟩; have HS := Lib.hid hs; have HB := Lib.hid (HB2.out.trans (hb.mono HB2.out.size)); have HT3 := Lib.hid (HT2.out.grow hb); clear hs hb)
    | (go_at_call 39; (with_reducible refine (KX.out w3 a4 c4 HS.out HT3.out).mono ?_); rintro e w5 ⟨a6, c6, rfl, hs, hb⟩; have HS5 := Lib.hid hs; have HB5 := Lib.hid (HB.out.trans (hb.mono HB.out.size)); clear hs hb))
  go_ret
  exact ⟨a6, c6, rfl, HS5.out, HB5.out⟩
end Go.Proofs.YtmnkdnlmpgmdgaaDoor
