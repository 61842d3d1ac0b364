/-
  bytes.LastIndex at four bytes; Last.
-/
import Derived.Test.YtflabomkgkojlaaE
import Derived.Deep.RegionWith
namespace Go.Proofs.Ytflabomkgkojlaa
open Go.RowKit

theorem Drew.refl (w : World) : Drew w w := ⟨0, rfl⟩
theorem Drew.below {w w' : World} {B : Nat} {a : World} (h : Drew w w') (hb : Below B a w) : Below B a w' := by
  obtain ⟨q, rfl⟩ := h
  exact below_drewN hb q

theorem Sl.at_ {w : World} {ao : Option Addr} {c : Nat} {xs : List Nat} (h : Sl w ao c xs) (hx : 0 < xs.length) : ∃ b o, ao = some ⟨b, o, none⟩ ∧ Lib.Bytes w b o (sB xs) ∧ ∀ j, j < xs.length → w.cell? ⟨b, o + j, none⟩ = some (.int .u8 (xs.getD j 0 : Nat)) := by
  rcases h.src with h0 | ⟨b, o, e, hc⟩
  · rw [h0] at hx; simp at hx
  · exact ⟨b, o, e, sB_bytes h.bs hc, hc⟩

theorem has4 {xs : List Nat} {s : Nat} (hb : Bs xs) (hl : xs.length = 4) (hs : s < 4294967296) : Has xs s 0 ↔ xs = le s 4 := by
  have h4 : (xs.drop 0).take 4 = xs := by rw [List.drop_zero, List.take_of_length_le (by omega)]
  have hn := num_le4 (s : Int)
  unfold Has
  rw [h4]
  constructor
  · rintro ⟨_, h⟩; rw [← h, le_num4 hb hl]
  · intro h; refine ⟨by omega, ?_⟩; rw [h]; omega

set_option maxHeartbeats 800000 in
theorem lastindex_any (ao ao2 : Option Addr) (c c2 : Nat) (xs : List Nat) (s : Nat) (hs : s < 4294967296) (r : Int) (hr : IsLast xs s r) (w : World) (h : Sl w ao c xs) (h2 : Sl w ao2 c2 (le s 4)) (hm : xs.length ≤ 1000000000) :
    Calls Try.prog 25 #[.slice ao xs.length c, .slice ao2 4 c2] w fun e w' => e = .returned (.int .i64 r) ∧ Drew w w' := by
  have hnl := le_len (s : Int) 4
  by_cases hA : xs.length < 4
  · have hr' : r = -1 := hr.uniq (.inl ⟨rfl, fun j hj => by have := hj.1; omega⟩)
    subst hr'
    have hA' : (xs.length : Int) < 4 := by omega
    clear hr h h2
    go_enter Try.func25, Try.ntmps25
    go_wp2
    all_goals first | (exfalso; omega) | (go_ret; exact ⟨rfl, Drew.refl _⟩)
  · obtain ⟨b1, o1, rfl, hB1, _⟩ := h.at_ (by omega)
    obtain ⟨b2, o2, rfl, hB2, _⟩ := h2.at_ (by omega)
    by_cases hE : xs.length = 4
    · have K := equal_any b1 o1 c b2 o2 c2 (sB xs) (sB (le s 4)) w hB1 hB2
      rw [sB_size, sB_size, hnl] at K
      have hbo : ((sB xs).toList == (sB (le s 4)).toList) = decide (xs = le s 4) := by
        rw [Lib.toList_data, Lib.toList_data, sB_list, sB_list]
        by_cases e : xs = le s 4
        · rw [← e]; simp
        · simp only [e, decide_false]
          apply beq_eq_false_iff_ne.2
          exact fun h' => e (U_inj h.bs h2.bs h')
      rw [hbo] at K
      have h40 := has4 h.bs hE hs
      have hE' : (xs.length : Int) = 4 := by omega
      by_cases e : xs = le s 4
      · have hr' : r = 0 := hr.uniq (.inr ⟨0, rfl, h40.2 e, fun j hj hc => by have := hc.1; omega⟩)
        rw [decide_eq_true e] at K
        have K := Lib.hid K
        rw [hE] at K ⊢
        subst hr'
        clear hr h h2 hB1 hB2 hbo h40 e hE hE' hm hA
        go_enter Try.func25, Try.ntmps25
        go_wp2_with (go_at_call 31; (with_reducible refine K.out.mono ?_); rintro e w' ⟨rfl, rfl⟩)
        go_ret
        exact ⟨rfl, Drew.refl _⟩
      · have hr' : r = -1 := hr.uniq (.inl ⟨rfl, fun j hj => by
          have := hj.1
          have : j = 0 := by omega
          subst this
          exact e (h40.1 hj)⟩)
        rw [decide_eq_false e] at K
        have K := Lib.hid K
        rw [hE] at K ⊢
        subst hr'
        clear hr h h2 hB1 hB2 hbo h40 e hE hE' hm hA
        go_enter Try.func25, Try.ntmps25
        go_wp2_with (go_at_call 31; (with_reducible refine K.out.mono ?_); rintro e w' ⟨rfl, rfl⟩)
        go_ret
        exact ⟨rfl, Drew.refl _⟩
    · have K := lastrk_loop b1 o1 c b2 o2 c2 (sB xs) (sB (le s 4)) (by rw [sB_size]; omega) (by rw [sB_size, sB_size]; omega) (by rw [sB_size]; omega) w hB1 hB2 (by rw [sB_size]; exact h.le)
      rw [sB_size, sB_size, hnl, sB_list, sB_list] at K
      have hr' : Lib.lastIndex (U xs) (U (le s 4)) = r := (last_index h.bs s hs).uniq hr
      rw [hr'] at K
      have K := Lib.hid K
      have d1 : ¬ ((xs.length : Int) < 4) := by omega
      have d2 : ¬ ((4 : Int) = (xs.length : Int)) := by omega
      have hx4 : 4 < xs.length := by omega
      clear hr h h2 hB1 hB2 hr' hA hE
      go_enter Try.func25, Try.ntmps25
      go_wp2_with (go_at_call 36; (with_reducible refine K.out.mono ?_); rintro e w' ⟨rfl, q, rfl⟩)
      all_goals first | (exfalso; omega) | (go_ret; exact ⟨rfl, ⟨q, rfl⟩⟩)

/-- A call that makes memory, and answers. -/
theorem putn_nil (s : Nat) (w : World) :
    Calls Try.prog 24 #[.slice none 0 0, .int .i64 s, .int .i64 4] w fun e w' => ∃ ao c, e = .returned (.slice ao 4 c) ∧ Sl w' ao c (le s 4) ∧ Below w.heap.size w w' := by
  have h := putn_any (s : Int) 4 (by omega) none 0 w.heap.size [] w (World.ownsRow_nil _ _ _ _) (Nat.le_refl _) (by simp)
  refine h.mono fun e w' ⟨ao, c, he, hA⟩ => ?_
  have hl : ([] ++ le (s : Int) 4).length = 4 := by rw [List.nil_append, le_len]
  rw [hl] at he
  refine ⟨ao, c, he, own_sl hA.own (le_bs _ _), hA.touch.below (Nat.le_refl _) fun k hk => by simp [Value.ownBlock] at hk⟩

set_option maxHeartbeats 400000 in
theorem last_any (ao : Option Addr) (c : Nat) (xs : List Nat) (s : Nat) (hs : s < 4294967296) (r : Int) (hr : IsLast xs s r) (w : World) (h : Sl w ao c xs) (hm : xs.length ≤ 1000000000) :
    Calls Try.prog 15 #[.slice ao xs.length c, .int .u32 s] w fun e w' => e = .returned (.int .i64 r) ∧ Below w.heap.size w w' := by
  have K1 := Lib.hid (putn_nil s w)
  have K2 := Lib.hid fun (w' : World) (ao2 : Option Addr) (c2 : Nat) (hb : Below w.heap.size w w') (h2 : Sl w' ao2 c2 (le s 4)) => lastindex_any ao ao2 c c2 xs s hs r hr w' (h.below hb) h2 hm
  have hs' : (s : Int) < 4294967296 := by omega
  clear h hr
  go_enter Try.func15, Try.ntmps15
  go_wp2_with (first
    | (go_at_call 24; (with_reducible refine K1.out.mono ?_); rintro e w1 ⟨ao2, c2, rfl, hsl, hb1⟩; have K3 := Lib.hid (K2.out w1 ao2 c2 hb1 hsl); have HB := Lib.hid hb1; clear hsl hb1)
    | (go_at_call 25; (with_reducible refine K3.out.mono ?_); rintro e w2 ⟨rfl, hd⟩; have HB2 := Lib.hid (hd.below HB.out); clear hd))
  go_ret
  exact ⟨rfl, HB2.out⟩
end Go.Proofs.Ytflabomkgkojlaa
