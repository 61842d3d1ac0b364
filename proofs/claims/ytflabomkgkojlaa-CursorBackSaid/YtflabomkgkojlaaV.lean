/-
  Numbers and the bytes that they tell, written, are read: the plain part of CursorBack.
-/
import Derived.Test.YtflabomkgkojlaaT
namespace Go.Proofs.Ytflabomkgkojlaa
open Go.RowKit

def hdr (bl : List (List Nat)) (sz : Nat) : List Nat := bl.flatMap fun b => le b.length sz
theorem hdr_len (bl : List (List Nat)) (sz : Nat) : (hdr bl sz).length = bl.length * sz := by
  induction bl with
  | nil => simp [hdr]
  | cons b r ih =>
    simp only [hdr, List.flatMap_cons, List.length_append, le_len, List.length_cons] at ih ⊢
    rw [ih, Nat.succ_mul]; omega
theorem hdr_app (a b : List (List Nat)) (sz : Nat) : hdr (a ++ b) sz = hdr a sz ++ hdr b sz := by simp [hdr]
theorem hdr_cons (b : List Nat) (r : List (List Nat)) (sz : Nat) : hdr (b :: r) sz = le b.length sz ++ hdr r sz := by simp [hdr]

def fN (kd : Int) (b : List Nat) : Fd := ⟨kd, b.length, []⟩
def fB (b : List Nat) : Fd := ⟨2, 0, b⟩

theorem win_of {pre mid suf : List Nat} {a n : Nat} (ha : pre.length = a) (hn : mid.length = n) : win (pre ++ mid ++ suf) a n = mid := by
  subst ha hn
  unfold win
  rw [List.append_assoc, List.drop_append_of_le_length (Nat.le_refl _), List.drop_length, List.nil_append, List.take_append_of_le_length (Nat.le_refl _), List.take_length]

/-- The width of a kind of numbers. -/
structure Wd (kd : Int) (sz : Nat) : Prop where
  w : (kd = 0 ∧ sz = 2) ∨ (kd = 1 ∧ sz = 4)
theorem Wd.stp {kd : Int} {sz : Nat} (h : Wd kd sz) (xs : List Nat) (back at_ : Nat) (l : List Fd) (v : Nat) (hv : v ≤ 1000) (hle : at_ + sz ≤ xs.length) (hw : win xs at_ sz = le v sz) :
    stp xs back kd at_ l = some (⟨kd, v, []⟩, at_ + sz) := by
  rcases h.w with ⟨rfl, rfl⟩ | ⟨rfl, rfl⟩
  · have e : num (le (v : Int) 2) = v := by have := num_le2 (v : Int); omega
    have h0 : Go.Proofs.Ytflabomkgkojlaa.stp xs back 0 at_ l = if at_ + 2 ≤ xs.length then some (⟨0, num (win xs at_ 2), []⟩, at_ + 2) else none := stp_0 xs back at_ l
    rw [h0, if_pos hle, hw, e]
  · have e : num (le (v : Int) 4) = v := by have := num_le4 (v : Int); omega
    have h0 : Go.Proofs.Ytflabomkgkojlaa.stp xs back 1 at_ l = if at_ + 4 ≤ xs.length then some (⟨1, num (win xs at_ 4), []⟩, at_ + 4) else none := stp_1 xs back at_ l
    rw [h0, if_pos hle, hw, e]
theorem Wd.isN {kd : Int} {sz : Nat} (h : Wd kd sz) : Go.Proofs.Ytflabomkgkojlaa.isN kd = true := by
  rcases h.w with ⟨rfl, _⟩ | ⟨rfl, _⟩ <;> rfl

theorem run_nums {kd : Int} {sz : Nat} (W : Wd kd sz) (bl : List (List Nat)) (hb : ∀ b ∈ bl, b.length ≤ 1000) (tail : List Nat) (back : Nat) (ks : List Int) :
    ∀ (suf pre : List (List Nat)), bl = pre ++ suf → run (hdr bl sz ++ tail) back (List.replicate suf.length kd ++ ks) (pre.length * sz) (pre.map (fN kd)) = run (hdr bl sz ++ tail) back ks (bl.length * sz) (bl.map (fN kd))
  | [], pre, e => by
    rw [List.append_nil] at e
    subst e
    simp
  | b :: r, pre, e => by
    have hm : b ∈ bl := by rw [e]; simp
    have hx : hdr bl sz ++ tail = hdr pre sz ++ le b.length sz ++ (hdr r sz ++ tail) := by rw [e, hdr_app, hdr_cons]; simp
    have hl : pre.length * sz + sz ≤ (hdr bl sz ++ tail).length := by
      rw [hx]; simp only [List.length_append, hdr_len, le_len]; omega
    have hw : win (hdr bl sz ++ tail) (pre.length * sz) sz = le b.length sz := by
      rw [hx]; exact win_of (hdr_len pre sz) (le_len _ _)
    have hs := W.stp (hdr bl sz ++ tail) back (pre.length * sz) (pre.map (fN kd)) b.length (hb b hm) hl hw
    rw [List.length_cons, List.replicate_succ, List.cons_append, run, hs]
    simp only
    have ih := run_nums W bl hb tail back ks r (pre ++ [b]) (by rw [e]; simp)
    rw [List.length_append, List.map_append] at ih
    have e2 : (pre.length + [b].length) * sz = pre.length * sz + sz := by simp [Nat.add_mul]
    rw [e2] at ih
    exact ih

theorem run_rows {kd : Int} {sz : Nat} (W : Wd kd sz) (bl : List (List Nat)) (rest : List Nat) (ks : List Int) :
    ∀ (suf pre : List (List Nat)), bl = pre ++ suf → run (hdr bl sz ++ (bl.flatten ++ rest)) bl.length (List.replicate suf.length 2 ++ ks) (bl.length * sz + pre.flatten.length) (bl.map (fN kd) ++ pre.map fB) = run (hdr bl sz ++ (bl.flatten ++ rest)) bl.length ks (bl.length * sz + bl.flatten.length) (bl.map (fN kd) ++ bl.map fB)
  | [], pre, e => by
    rw [List.append_nil] at e
    subst e
    simp
  | b :: r, pre, e => by
    have hf : bl.flatten = pre.flatten ++ b ++ r.flatten := by rw [e]; simp
    have hx : hdr bl sz ++ (bl.flatten ++ rest) = (hdr bl sz ++ pre.flatten) ++ b ++ (r.flatten ++ rest) := by rw [hf]; simp
    have hw : win (hdr bl sz ++ (bl.flatten ++ rest)) (bl.length * sz + pre.flatten.length) b.length = b := by
      rw [hx]; exact win_of (by rw [List.length_append, hdr_len]) rfl
    have hl : bl.length * sz + pre.flatten.length + b.length ≤ (hdr bl sz ++ (bl.flatten ++ rest)).length := by
      rw [hx]; simp only [List.length_append, hdr_len]; omega
    have hll : (bl.map (fN kd) ++ pre.map fB).length = bl.length + pre.length := by simp
    have hat : (bl.map (fN kd) ++ pre.map fB)[(bl.map (fN kd) ++ pre.map fB).length - bl.length]? = some (fN kd b) := by
      rw [hll, Nat.add_sub_cancel_left, List.getElem?_append_left (by rw [List.length_map, e]; simp), List.getElem?_map, e]
      simp
    have hs := stp_2 (hdr bl sz ++ (bl.flatten ++ rest)) bl.length (bl.length * sz + pre.flatten.length) (bl.map (fN kd) ++ pre.map fB) (fN kd b) (by rw [hll]; omega) hat
    rw [if_pos ⟨W.isN, hl⟩, show (fN kd b).n = b.length from rfl, hw] at hs
    rw [List.length_cons, List.replicate_succ, List.cons_append, run, hs]
    simp only
    have ih := run_rows W bl rest ks r (pre ++ [b]) (by rw [e]; simp)
    have e2 : (pre ++ [b]).flatten.length = pre.flatten.length + b.length := by simp
    have e3 : bl.map (fN kd) ++ (pre ++ [b]).map fB = bl.map (fN kd) ++ pre.map fB ++ [fB b] := by simp
    rw [e2, e3, ← Nat.add_assoc] at ih
    exact ih

/-- What is written is read. -/
theorem run_back {kd : Int} {sz : Nat} (W : Wd kd sz) (bl : List (List Nat)) (hb : ∀ b ∈ bl, b.length ≤ 1000) (rest xs : List Nat) (hxs : xs = hdr bl sz ++ (bl.flatten ++ rest)) (ks : List Int) (hks : ks = List.replicate bl.length kd ++ (List.replicate bl.length 2 ++ [3])) :
    run xs (cnt ks) ks 0 [] = some (bl.map (fN kd) ++ bl.map fB ++ [⟨3, 0, rest⟩], xs.length) := by
  have hc : cnt ks = bl.length := by
    rw [hks]
    have h2 : kd ≠ 2 := by rcases W.w with ⟨rfl, _⟩ | ⟨rfl, _⟩ <;> omega
    simp [cnt, List.filter_append, h2]
  rw [hc, hks, hxs]
  have h1 := run_nums W bl hb (bl.flatten ++ rest) bl.length (List.replicate bl.length 2 ++ [3]) bl [] rfl
  have h2 := run_rows W bl rest [3] bl [] rfl
  simp only [List.length_nil, Nat.zero_mul, List.map_nil, List.flatten_nil, Nat.add_zero, List.append_nil] at h1 h2
  rw [h1, h2]
  have hll : bl.length * sz + bl.flatten.length + rest.length = (hdr bl sz ++ (bl.flatten ++ rest)).length := by simp only [List.length_append, hdr_len]; omega
  have hw : win (hdr bl sz ++ (bl.flatten ++ rest)) (bl.length * sz + bl.flatten.length) ((hdr bl sz ++ (bl.flatten ++ rest)).length - (bl.length * sz + bl.flatten.length)) = rest := by
    have := win_of (pre := hdr bl sz ++ bl.flatten) (mid := rest) (suf := []) (a := bl.length * sz + bl.flatten.length) (n := (hdr bl sz ++ (bl.flatten ++ rest)).length - (bl.length * sz + bl.flatten.length)) (by rw [List.length_append, hdr_len]) (by omega)
    rw [List.append_nil, List.append_assoc] at this
    exact this
  rw [run, stp_3 _ _ _ _ (by omega), hw]
  rfl
end Go.Proofs.Ytflabomkgkojlaa
