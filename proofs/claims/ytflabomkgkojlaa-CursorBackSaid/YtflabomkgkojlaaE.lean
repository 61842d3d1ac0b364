/-
  Signs found: what is asked, and the library's searches; Last.
-/
import Derived.Test.YtflabomkgkojlaaD
import Derived.Test.YtflabomkgkojlaaLB
import Derived.Lib.IndexMore
namespace Go.Proofs.Ytflabomkgkojlaa
open Go.RowKit

/-- A sign stands at a place. -/
def Has (xs : List Nat) (s i : Nat) : Prop := i + 4 ≤ xs.length ∧ num ((xs.drop i).take 4) = s
instance (xs : List Nat) (s i : Nat) : Decidable (Has xs s i) := by unfold Has; infer_instance
/-- The least place, from one on. -/
def IsFirst (xs : List Nat) (s from_ : Nat) (r : Int) : Prop :=
  (r = -1 ∧ ∀ j, from_ ≤ j → ¬ Has xs s j) ∨ ∃ i : Nat, r = i ∧ from_ ≤ i ∧ Has xs s i ∧ ∀ j, from_ ≤ j → j < i → ¬ Has xs s j
def IsLast (xs : List Nat) (s : Nat) (r : Int) : Prop :=
  (r = -1 ∧ ∀ j, ¬ Has xs s j) ∨ ∃ i : Nat, r = i ∧ Has xs s i ∧ ∀ j, i < j → ¬ Has xs s j

theorem IsFirst.uniq {xs : List Nat} {s f : Nat} {a b : Int} (h : IsFirst xs s f a) (k : IsFirst xs s f b) : a = b := by
  rcases h with ⟨rfl, h⟩ | ⟨i, rfl, hi, h1, h2⟩ <;> rcases k with ⟨rfl, k⟩ | ⟨j, rfl, hj, k1, k2⟩
  · rfl
  · exact absurd k1 (h j hj)
  · exact absurd h1 (k i hi)
  · rcases Nat.lt_trichotomy i j with hl | hl | hl
    · exact absurd h1 (k2 i hi hl)
    · rw [hl]
    · exact absurd k1 (h2 j hj hl)
theorem IsLast.uniq {xs : List Nat} {s : Nat} {a b : Int} (h : IsLast xs s a) (k : IsLast xs s b) : a = b := by
  rcases h with ⟨rfl, h⟩ | ⟨i, rfl, h1, h2⟩ <;> rcases k with ⟨rfl, k⟩ | ⟨j, rfl, k1, k2⟩
  · rfl
  · exact absurd k1 (h j)
  · exact absurd h1 (k i)
  · rcases Nat.lt_trichotomy i j with hl | hl | hl
    · exact absurd k1 (h2 j hl)
    · rw [hl]
    · exact absurd h1 (k2 i hl)

/-! ### Numbers as the library's bytes -/
def U (xs : List Nat) : List UInt8 := xs.map UInt8.ofNat
def ints (xs : List Nat) : List Int := xs.map fun x : Nat => (x : Int)
def sB (xs : List Nat) : ByteArray := ⟨(U xs).toArray⟩
theorem sB_size (xs : List Nat) : (sB xs).size = xs.length := by simp [sB, U, ByteArray.size]
theorem sB_list (xs : List Nat) : (sB xs).data.toList = U xs := by simp [sB]
theorem U_len (xs : List Nat) : (U xs).length = xs.length := by simp [U]
theorem bytesOf_ints (xs : List Nat) : Lib.bytesOf (ints xs) = U xs := by simp [Lib.bytesOf, ints, U]
theorem U_inj {a b : List Nat} (ha : Bs a) (hb : Bs b) (h : U a = U b) : a = b := by
  induction a generalizing b with
  | nil => cases b with
    | nil => rfl
    | cons y r => simp [U] at h
  | cons x r ih => cases b with
    | nil => simp [U] at h
    | cons y q =>
      simp only [U, List.map_cons, List.cons.injEq] at h
      have hx := ha x (by simp)
      have hy := hb y (by simp)
      have e := congrArg UInt8.toNat h.1
      simp at e
      have : x = y := by omega
      subst this
      rw [ih (fun z hz => ha z (List.mem_cons_of_mem _ hz)) (fun z hz => hb z (List.mem_cons_of_mem _ hz)) h.2]
theorem sB_bytes {w : World} {b o : Nat} {xs : List Nat} (hb : Bs xs) (hc : ∀ j, j < xs.length → w.cell? ⟨b, o + j, none⟩ = some (.int .u8 (xs.getD j 0 : Nat))) : Lib.Bytes w b o (sB xs) := by
  intro i hi
  have hi' : i < xs.length := by rwa [sB_size] at hi
  rw [hc i hi']
  have e : (sB xs)[i] = UInt8.ofNat (xs.getD i 0) := by
    have := Go.Proofs.byte_at' (sB xs) i hi (by rw [sB_list, U_len]; exact hi')
    rw [← this]
    simp [sB_list, U, List.getD, hi']
  have hx := hb.at i
  rw [e]
  congr 2
  simp only [UInt8.toNat_ofNat']
  omega

theorem occ_has {xs : List Nat} (hb : Bs xs) (s : Nat) (hs : s < 4294967296) (i : Nat) : Lib.occAt (U xs) (U (le s 4)) i = true ↔ Has xs s i := by
  have e : (U xs).drop i = U (xs.drop i) := by simp [U, List.map_drop]
  have e4 : ∀ l : List Nat, (U l).take 4 = U (l.take 4) := fun l => by simp [U, List.map_take]
  have hl : (U (le (s : Int) 4)).length = 4 := by rw [U_len, le_len]
  have hn := num_le4 (s : Int)
  unfold Lib.occAt
  rw [List.isPrefixOf_iff_prefix, List.prefix_iff_eq_take, hl, e, e4]
  constructor
  · intro h
    have h2 := U_inj (le_bs _ _) ((hb.drop i).take 4) h
    have h3 := congrArg List.length h2
    rw [le_len, List.length_take, List.length_drop] at h3
    refine ⟨by omega, ?_⟩
    rw [← h2]
    omega
  · rintro ⟨h1, h2⟩
    rw [← h2, le_num4 ((hb.drop i).take 4) (win_len h1)]

theorem last_index {xs : List Nat} (hb : Bs xs) (s : Nat) (hs : s < 4294967296) : IsLast xs s (Lib.lastIndex (U xs) (U (le s 4))) := by
  have hl : (U (le (s : Int) 4)).length = 4 := by rw [U_len, le_len]
  unfold Lib.lastIndex
  rw [hl, U_len]
  by_cases h : 4 ≤ xs.length
  · rw [if_pos h]
    rcases Lib.lastOcc_spec (U xs) (U (le s 4)) (xs.length - 4 + 1) with ⟨e, hn⟩ | ⟨i, hi, e, ho, hn⟩
    · refine .inl ⟨e, fun j hj => ?_⟩
      have := hn j (by have := hj.1; omega)
      rw [(occ_has hb s hs j).2 hj] at this
      cases this
    · refine .inr ⟨i, e, (occ_has hb s hs i).1 ho, fun j hij hj => ?_⟩
      have := hn j hij (by have := hj.1; omega)
      rw [(occ_has hb s hs j).2 hj] at this
      cases this
  · rw [if_neg h]
    exact .inl ⟨rfl, fun j hj => h (by have := hj.1; omega)⟩

theorem first_index {xs : List Nat} (hb : Bs xs) (s : Nat) (hs : s < 4294967296) (f : Nat) (hf : f ≤ xs.length) :
    let r := Lib.index (U (xs.drop f)) (U (le s 4))
    IsFirst xs s f (if r < 0 then -1 else f + r) := by
  have hh : ∀ j, Has (xs.drop f) s j ↔ Has xs s (f + j) := fun j => by
    unfold Has
    rw [List.drop_drop, List.length_drop]
    constructor
    · rintro ⟨a, b⟩; exact ⟨by omega, b⟩
    · rintro ⟨a, b⟩; exact ⟨by omega, b⟩
  have hbd := hb.drop f
  intro r
  rcases Lib.index_spec (U (xs.drop f)) (U (le s 4)) with ⟨e, hn⟩ | ⟨i, e, hi, ho, hn⟩
  · have hr : r = -1 := e
    rw [hr, if_pos (by omega)]
    refine .inl ⟨rfl, fun j hj hc => ?_⟩
    have h1 := (hh (j - f)).2 (by rw [show f + (j - f) = j from by omega]; exact hc)
    have := hn (j - f) (by rw [U_len]; have := h1.1; omega)
    rw [(occ_has hbd s hs _).2 h1] at this
    cases this
  · have hr : r = i := e
    rw [hr, if_neg (by omega)]
    refine .inr ⟨f + i, by omega, by omega, (hh i).1 ((occ_has hbd s hs i).1 ho), fun j hj hlt hc => ?_⟩
    have h1 := (hh (j - f)).2 (by rw [show f + (j - f) = j from by omega]; exact hc)
    have := hn (j - f) (by omega)
    rw [(occ_has hbd s hs _).2 h1] at this
    cases this

theorem first_past {xs : List Nat} {s f : Nat} (hf : xs.length < f) : IsFirst xs s f (-1) := .inl ⟨rfl, fun j hj hc => by have := hc.1; omega⟩
theorem exists_first {xs : List Nat} (hb : Bs xs) (s : Nat) (hs : s < 4294967296) (f : Nat) : ∃ r, IsFirst xs s f r := by
  by_cases hf : f ≤ xs.length
  · exact ⟨_, first_index hb s hs f hf⟩
  · exact ⟨-1, first_past (by omega)⟩

/-! ### bytes.Equal, bytes.LastIndex at four bytes -/
theorem equal_any (b1 o1 c1 b2 o2 c2 : Nat) (s t : ByteArray) (w : World) (h1 : Lib.Bytes w b1 o1 s) (h2 : Lib.Bytes w b2 o2 t) :
    Calls Try.prog 31 #[.slice (some ⟨b1, o1, none⟩) s.size c1, .slice (some ⟨b2, o2, none⟩) t.size c2] w fun e w' => e = .returned (.bool (s.toList == t.toList)) ∧ w = w' := by
  have k1 := Lib.run_convert_whole (P := Try.prog) w 22 5 9 Try.underlying22 Try.underlying5 Try.underlying9 b1 o1 s h1 c1
  have k2 := Lib.run_convert_whole (P := Try.prog) w 22 5 9 Try.underlying22 Try.underlying5 Try.underlying9 b2 o2 t h2 c2
  clear h1 h2
  go_enter Try.func31, Try.ntmps31
  go_wp2
  go_ret
  exact ⟨rfl, rfl⟩
end Go.Proofs.Ytflabomkgkojlaa
