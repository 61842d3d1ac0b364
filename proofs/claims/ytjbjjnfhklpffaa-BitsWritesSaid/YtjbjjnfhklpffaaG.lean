/-
  Contracts of a reader's Bytes.
-/
import Derived.Test.YtjbjjnfhklpffaaF
namespace Go.Proofs.Ytjbjjnfhklpffaa
open Go.RowKit

/-- What Bytes answers: a new copy; the place has gone on. -/
def GotBytes (w : World) (base p : Nat) (g : Option Nat) (bs : List Nat) (m : Nat) (xs : List Nat) (e : Ending) (w' : World) : Prop :=
  ∃ a c, e = .returned (.tuple #[.slice a xs.length c, .bool true]) ∧ w'.ownsRow w.heap.size 5 1 (.slice a xs.length c) xs.length (u8s xs) ∧ (∀ k, (Value.slice a xs.length c).ownBlock = some k → w.heap.size ≤ k) ∧ Ob w' base 59 p g bs m ∧ Touch (fun k => k = p) w w'

theorem cut_own {w : World} {base g cap : Nat} {bs : List Nat} (h : w.ownsRow base 5 1 (.slice (some ⟨g, 0, none⟩) bs.length cap) bs.length (u8s bs)) (f n : Nat) (hf : f + n ≤ bs.length) (c : Nat) (hc : n ≤ c) :
    BySl w (.slice (some ⟨g, f, none⟩) n c) ((bs.drop f).take n) := by
  have hl : ((bs.drop f).take n).length = n := by rw [List.length_take, List.length_drop]; omega
  refine .inr ⟨⟨g, f, none⟩, c, by rw [hl], by omega, fun j u hu => ?_⟩
  have hj : j < n := by
    have := (List.getElem?_eq_some_iff.1 hu).1
    rw [u8s_len, hl] at this; exact this
  rw [Addr.add_lit, row_cell h (f + j) (by omega)]
  rw [← hu]
  simp [u8s, byt, List.getD, hj, show f + j < bs.length by omega]

theorem bytesFor_nat (n : Int) (m : Nat) (w : World) (h0 : 0 ≤ n) (h1 : n ≤ 100000000000) (hm : (n + 7) / 8 = (m : Int)) :
    Calls Try.prog 33 #[.int .i64 n] w fun e w' => e = .returned (.int .i64 m) ∧ w = w' := by
  have h := bytesFor_any n w h0 h1
  rw [hm] at h
  exact h

set_option maxHeartbeats 400000 in
theorem bytes_yes {w : World} {base p g0 cap : Nat} {bs : List Nat} {at_ : Nat} (h : Ob w base 59 p (some g0) bs at_) (hl : bs.length ≤ 1000000000) (ha : at_ ≤ 8 * bs.length)
    (s : Seen w base p (some g0) bs at_ (.slice (some ⟨g0, 0, none⟩) bs.length cap)) (hc : bs.length ≤ cap) (n first : Nat) (hfi : ((at_ : Int) + 7) / 8 = (first : Int)) (hn : first + n ≤ bs.length) :
    Calls Try.prog 15 #[.pointer (some ⟨p, 0, none⟩), .int .i64 n] w (GotBytes w base p (some g0) bs ((first + n) * 8) ((bs.drop first).take n)) := by
  have hgp := h.lt.2 g0 rfl
  obtain ⟨c0, c1, f0, f1, own, hg⟩ := s
  obtain ⟨hO, hT⟩ := Moved.mk' h 0 ((first + n) * 8) (x := ((first : Int) + n) * 8) (by omega)
  rw [World.drewN_zero] at hO hT
  have hlx : ((bs.drop first).take n).length = n := by rw [List.length_take, List.length_drop]; omega
  have hcut : first < cap → BySl (w.setCell ⟨p, 1, none⟩ (.int .i64 (((first : Int) + n) * 8))) (.slice (some ⟨g0, first, none⟩) n (cap - first)) ((bs.drop first).take n) := fun hlt =>
    (cut_own own first n hn (cap - first) (by omega)).touch hT (fun k hk => by simp [Value.ownBlock] at hk; omega)
  have hcut0 : n = 0 → BySl (w.setCell ⟨p, 1, none⟩ (.int .i64 (((first : Int) + n) * 8))) (.slice (some ⟨g0, 0, none⟩) n 0) ((bs.drop first).take n) := fun h0 => by
    subst h0
    exact .inr ⟨⟨g0, 0, none⟩, 0, by simp, by simp, fun j u hu => by simp [u8s] at hu⟩
  have HFE := Lib.hid hfi
  have HO := Lib.hid hO
  have HT := Lib.hid hT
  have HLX := Lib.hid hlx
  have HC := Lib.hid hcut
  have HC0 := Lib.hid hcut0
  clear hfi hO hT own h hlx hcut hcut0 hg hgp
  by_cases hcap : cap = first
  · have hn0 : n = 0 := by omega
    have HN0 := Lib.hid hn0
    clear hn0
    have hnn : ((n : Int)) ≤ 0 := by have := HN0.out; omega
    go_enter Try.func15, Try.ntmps15
    go_wp2_with (first
      | (go_at_call 33; refine (bytesFor_nat at_ first _ (by omega) (by omega) HFE.out).mono ?_; rintro e w' ⟨rfl, rfl⟩)
      | (go_at_call 32; go_must (refine (clone_any (HC0.out HN0.out) (by have := HLX.out; omega)).mono ?_); rintro e w' ⟨a, c, rfl, hown, hlow, ht⟩))
    go_ret2
    refine ⟨a, c, by simp, own_base hown (by simp), fun k hk => by have := hlow k hk; simpa using this, HO.out.touch ht (fun _ _ h => h), HT.out.trans (ht.mono fun _ h => h.elim)⟩
  · have hlt : first < cap := by omega
    go_enter Try.func15, Try.ntmps15
    go_wp2_with (first
      | (go_at_call 33; refine (bytesFor_nat at_ first _ (by omega) (by omega) HFE.out).mono ?_; rintro e w' ⟨rfl, rfl⟩)
      | (go_at_call 32; go_must (refine (clone_any (HC.out hlt) (by have := HLX.out; omega)).mono ?_); rintro e w' ⟨a, c, rfl, hown, hlow, ht⟩))
    go_ret2
    refine ⟨a, c, by simp, own_base hown (by simp), fun k hk => by have := hlow k hk; simpa using this, HO.out.touch ht (fun _ _ h => h), HT.out.trans (ht.mono fun _ h => h.elim)⟩

theorem bytes_nil {w : World} {base p : Nat} (h : Ob w base 59 p none [] 0) (s : Seen w base p none [] 0 (.slice none 0 0)) :
    Calls Try.prog 15 #[.pointer (some ⟨p, 0, none⟩), .int .i64 0] w (GotBytes w base p none [] 0 []) := by
  obtain ⟨c0, c1, f0, f1, own, hg⟩ := s
  obtain ⟨hO, hT⟩ := Moved.mk' h 0 0 (x := 0) (by omega)
  rw [World.drewN_zero] at hO hT
  have HO := Lib.hid hO
  have HT := Lib.hid hT
  clear hO hT own h hg
  go_enter Try.func15, Try.ntmps15
  go_wp2_with (first
    | (go_at_call 33; refine (bytesFor_nat 0 0 _ (by omega) (by omega) (by omega)).mono ?_; rintro e w' ⟨rfl, rfl⟩)
    | (go_at_call 32; go_must (refine (clone_nil _).mono ?_); rintro e w' ⟨a, c, rfl, hown, hlow, ht⟩))
  go_ret2
  refine ⟨a, c, rfl, own_base hown (by simp), fun k hk => by have := hlow k hk; simpa using this, HO.out.touch ht (fun _ _ h => h), HT.out.trans (ht.mono fun _ h => h.elim)⟩

theorem Ob.bytes_yes {w : World} {base p : Nat} {g : Option Nat} {bs : List Nat} {at_ : Nat} (h : Ob w base 59 p g bs at_) (hl : bs.length ≤ 1000000000) (ha : at_ ≤ 8 * bs.length) (n : Nat) (hn : (at_ + 7) / 8 + n ≤ bs.length) :
    Calls Try.prog 15 #[.pointer (some ⟨p, 0, none⟩), .int .i64 n] w (GotBytes w base p g bs (((at_ + 7) / 8 + n) * 8) ((bs.drop ((at_ + 7) / 8)).take n)) := by
  rcases h.see with ⟨s, rfl, rfl⟩ | ⟨g0, cap, s, rfl, hc, hm⟩
  · have h0 : at_ = 0 := by simpa using ha
    have h1 : n = 0 := by simp at hn; omega
    subst h0; subst h1
    exact bytes_nil h s
  · exact Ytjbjjnfhklpffaa.bytes_yes h hl ha s hc n _ (by omega) hn

theorem bytes_no {w : World} {p len cap at_ : Nat} {ao : Option Addr} (c0 : w.cell? ⟨p, 0, none⟩ = some (.slice ao len cap)) (c1 : w.cell? ⟨p, 1, none⟩ = some (.int .i64 at_)) (hl : len ≤ 1000000000) (ha : at_ ≤ 8 * len) (n : Int) (first : Nat) (hfi : ((at_ : Int) + 7) / 8 = (first : Int)) (hn : n < 0 ∨ (len : Int) - first < n) :
    Calls Try.prog 15 #[.pointer (some ⟨p, 0, none⟩), .int .i64 n] w fun e w' => e = .returned (.tuple #[.slice none 0 0, .bool false]) ∧ w = w' := by
  have hf2 : first ≤ len := by omega
  have HFE := Lib.hid hfi
  clear hfi
  by_cases h0 : n < 0
  · clear hn
    go_enter Try.func15, Try.ntmps15
    go_wp2_with (go_at_call 33; refine (bytesFor_nat at_ first _ (by omega) (by omega) HFE.out).mono ?_; rintro e w' ⟨rfl, rfl⟩)
    go_ret2
    exact ⟨rfl, rfl⟩
  · have h0' : 0 ≤ n := by omega
    have h1 : (len : Int) - first < n := by omega
    clear hn h0
    go_enter Try.func15, Try.ntmps15
    go_wp2_with (go_at_call 33; refine (bytesFor_nat at_ first _ (by omega) (by omega) HFE.out).mono ?_; rintro e w' ⟨rfl, rfl⟩)
    go_ret2
    exact ⟨rfl, rfl⟩

theorem Ob.bytes_no {w : World} {base p : Nat} {g : Option Nat} {bs : List Nat} {at_ : Nat} (h : Ob w base 59 p g bs at_) (hl : bs.length ≤ 1000000000) (ha : at_ ≤ 8 * bs.length) (n : Int) (hn : n < 0 ∨ (bs.length : Int) - ((at_ : Int) + 7) / 8 < n) :
    Calls Try.prog 15 #[.pointer (some ⟨p, 0, none⟩), .int .i64 n] w fun e w' => e = .returned (.tuple #[.slice none 0 0, .bool false]) ∧ w = w' := by
  rcases h.see with ⟨s, rfl, rfl⟩ | ⟨g0, cap, s, rfl, hc, hm⟩
  · have h0 : at_ = 0 := by simpa using ha
    subst h0
    exact Ytjbjjnfhklpffaa.bytes_no s.c0 s.c1 (by omega) (by omega) n 0 (by omega) (by simp only [List.length_nil] at hn; omega)
  · exact Ytjbjjnfhklpffaa.bytes_no s.c0 s.c1 hl ha n ((at_ + 7) / 8) (by omega) (by omega)

end Go.Proofs.Ytjbjjnfhklpffaa
