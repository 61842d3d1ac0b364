/-
  TrimPrefix, Strip.
-/
import Derived.Test.YtmnkdnlmpgmdgaaDoorUi
namespace Go.Proofs.YtmnkdnlmpgmdgaaDoor
open Go.RowKit U
set_option maxRecDepth 100000

/-- Without the three. -/
def stripP (xs : List Nat) : List Nat := if xs.take 3 = [239, 187, 191] then xs.drop 3 else xs
theorem has3 {xs : List Nat} (hb : Bs xs) : Lib.hasPrefix (u8L xs) (u8L [239, 187, 191]) = decide (xs.take 3 = [239, 187, 191]) := by
  unfold Lib.hasPrefix
  match xs, hb with
  | [], _ => rfl
  | [a], _ => simp [u8L, List.isPrefixOf]
  | [a, b], _ => simp [u8L, List.isPrefixOf]
  | a :: b :: c :: t, hb =>
    show (UInt8.ofNat 239 == UInt8.ofNat a && (UInt8.ofNat 187 == UInt8.ofNat b && (UInt8.ofNat 191 == UInt8.ofNat c && true))) = _
    rw [of_eq (hb a (by simp)) (by decide), of_eq (hb b (by simp)) (by decide), of_eq (hb c (by simp)) (by decide)]
    simp
theorem trim_any (ao a2 : Option Addr) (c c2 : Nat) (s : List Nat) (w : World) (h : Sl w ao c s) (h2 : Sl w a2 c2 [239, 187, 191]) (hm : s.length ≤ 1000000) :
    Calls Tryd.prog 40 #[.slice ao s.length c, .slice a2 3 c2] w fun e w' => (∃ a c', e = .returned (.slice a (stripP s).length c') ∧ Sl w a c' (stripP s)) ∧ w' = w := by
  have hin : ∀ {a : Option Addr} {c : Nat} {xs : List Nat}, Sl w a c xs → Lib.BytesIn w a xs.length (ints xs) := fun {a c xs} h hn => by
    rcases h.src with h0 | ⟨b, o, e, hc⟩
    · rw [h0] at hn; simp at hn
    · exact ⟨b, o, e, fun i hi => by rw [ints_at]; exact hc i hi⟩
  have K := Any.bytes_TrimPrefix_all ltrim ao a2 s.length c 3 c2 (ints s) (ints [239, 187, 191]) w (ints_len _) rfl h.le (hin h) (hin h2)
  refine Calls.mono (show Calls Tryd.prog 40 #[.slice ao s.length c, .slice a2 3 c2] w _ from K) ?_
  rintro e w' ⟨rfl, rfl⟩
  refine ⟨?_, rfl⟩
  by_cases hs : s.take 3 = [239, 187, 191]
  · have hl : 3 ≤ s.length := by have := congrArg List.length hs; rw [List.length_take] at this; simp at this; omega
    rcases h.src with h0 | ⟨b, o, rfl, hc⟩
    · rw [h0] at hl; simp at hl
    · have hf := h.from_ 3 hl
      have e : stripP s = s.drop 3 := by unfold stripP; rw [if_pos hs]
      rw [e]
      refine ⟨_, _, ?_, hf⟩
      show Ending.returned (Lib.bytesTrimPrefix b o s.length c (ints s) (ints [239, 187, 191])) = _
      unfold Lib.bytesTrimPrefix
      rw [bytesOf_ints, bytesOf_ints, has3 h.bs, decide_eq_true hs, if_pos rfl, List.length_drop]
      unfold Lib.sliceFrom cutA
      rw [ints_len]
      simp only [List.length_cons, List.length_nil, Nat.zero_add, Nat.reduceAdd, Option.map_some, Nat.mul_one, Addr.add_lit]
  · have e : stripP s = s := by unfold stripP; rw [if_neg hs]
    rw [e]
    refine ⟨ao, c, ?_, h⟩
    unfold Lib.trimPrefixV
    split
    · unfold Lib.bytesTrimPrefix
      rw [bytesOf_ints, bytesOf_ints, has3 h.bs, decide_eq_false hs, if_neg (by simp)]
    · rfl

set_option maxHeartbeats 1600000 in
theorem Strip_any (ao : Option Addr) (c : Nat) (s : List Nat) (w : World) (h : Sl w ao c s) (hm : s.length ≤ 1000000) :
    Calls Tryd.prog 30 #[.slice ao s.length c] w (SlTo (stripP s) w) := by
  have hc := fun (w : World) (C : Array Value) (n c : Nat) => Lib.run_convert_bytes_const (P := Tryd.prog) w 22 5 C n c Tryd.underlying22 Tryd.underlying5
  obtain ⟨W1, hW1⟩ : ∃ W1, W1 = w.alloc (.cells #[.int .u8 239, .int .u8 187, .int .u8 191] 5 (3, 4)) := ⟨_, rfl⟩
  have b1 : Below w.heap.size w W1 := by rw [hW1]; exact (Below.refl _ w).alloc (Nat.le_refl _) _
  have s1 : Sl W1 (some ⟨w.heap.size, 0, none⟩) 3 [239, 187, 191] := by rw [hW1]; exact sl_text w [239, 187, 191] _ 3 _ _ rfl rfl rfl (fun x hx => by simp at hx; omega) (by decide)
  have K := Lib.hid (trim_any ao _ c 3 s W1 (h.below b1) s1 hm)
  have hl : (stripP s).length ≤ s.length := by unfold stripP; split <;> simp
  obtain ⟨L, hL⟩ : ∃ L, L = stripP s := ⟨_, rfl⟩
  rw [← hL] at K hl ⊢
  have KC := Lib.hid fun (a : Option Addr) (c : Nat) (h : Sl W1 a c L) => clone_any a c L W1 h (by omega)
  obtain ⟨Z, hZ⟩ : ∃ Z, Z = L.length := ⟨_, rfl⟩
  unfold Cloned at KC
  rw [← hZ] at K KC
  have HB1 := Lib.hid b1
  have HZ := Lib.hid hZ
  clear h b1 s1 hL hZ
  go_enter Tryd.func30, Tryd.ntmps30
  go_wp2_with (first
    | (rw [← hW1]; clear hW1; go_at_call 40; (with_reducible refine K.out.mono ?_); rintro e w2 ⟨⟨a3, c3, rfl, hs⟩, rfl⟩; have HS := Lib.hid hs; clear hs)
    | (go_at_call 34; (with_reducible refine (KC.out a3 c3 HS.out).mono ?_); rintro e w3 ⟨a4, c4, rfl, hf, hb⟩; have HF := Lib.hid hf.1; have HB := Lib.hid (HB1.out.trans (hb.mono HB1.out.size)); clear hf hb))
  go_ret
  exact ⟨a4, c4, by rw [← HZ.out]; rfl, HF.out, HB.out⟩
end Go.Proofs.YtmnkdnlmpgmdgaaDoor
