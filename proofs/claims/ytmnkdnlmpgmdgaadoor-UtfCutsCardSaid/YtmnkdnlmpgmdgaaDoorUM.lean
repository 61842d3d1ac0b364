/-
  The library's contracts at this program's own numbers: bytes.Count, Index, TrimPrefix.
-/
import Derived.Test.YtmnkdnlmpgmdgaaDoorUb
import Derived.Test.YtmnkdnlmpgmdgaaDoorUN
import Derived.Shelf.Bytes.SlSplitNil
import Derived.Shelf.Bytes.SlIndexWhole
import Derived.Shelf.Bytes.SlSmallAll
namespace Go.Proofs.YtmnkdnlmpgmdgaaDoor
open Go.RowKit
set_option maxRecDepth 100000

def lidx_ren : Go.Shelf.Ren := ⟨fun | 185 => 48 | 187 => 52 | 115 => 49 | 253 => 53 | 224 => 54 | 254 => 55 | 255 => 57 | 291 => 58 | n => n, fun | 37 => 22 | 3 => 3 | 4 => 4 | 0 => 0 | 5 => 5 | 46 => 60 | 9 => 9 | 146 => 69 | 51 => 56 | n => n, fun | 1 => 2 | n => n⟩
theorem lidx : Go.Proofs.LaysM.n185 Tryd.prog lidx_ren := {
  mixed := by kernel_rfl,
  f115 := Tryd.func49.trans (congrArg some (by kernel_rfl)),
  f185 := Tryd.func48.trans (congrArg some (by kernel_rfl)),
  f187 := Tryd.func52.trans (congrArg some (by kernel_rfl)),
  f224 := Tryd.func54.trans (congrArg some (by kernel_rfl)),
  f253 := Tryd.func53.trans (congrArg some (by kernel_rfl)),
  f254 := Tryd.func55.trans (congrArg some (by kernel_rfl)),
  f255 := Tryd.func57.trans (congrArg some (by kernel_rfl)),
  f291 := Tryd.func58.trans (congrArg some (by kernel_rfl)),
  t0 := Tryd.underlying0,
  a0 := Tryd.isAgg0,
  z0 := Tryd.sizeOf0,
  v0 := Tryd.zeroValue0,
  t3 := Tryd.underlying3,
  a3 := Tryd.isAgg3,
  z3 := Tryd.sizeOf3,
  v3 := Tryd.zeroValue3,
  t4 := Tryd.underlying4,
  a4 := Tryd.isAgg4,
  z4 := Tryd.sizeOf4,
  v4 := Tryd.zeroValue4,
  t5 := Tryd.underlying5,
  a5 := Tryd.isAgg5,
  z5 := Tryd.sizeOf5,
  v5 := Tryd.zeroValue5,
  t9 := Tryd.underlying9,
  a9 := Tryd.isAgg9,
  z9 := Tryd.sizeOf9,
  v9 := Tryd.zeroValue9,
  t37 := Tryd.underlying22,
  a37 := Tryd.isAgg22,
  z37 := Tryd.sizeOf22,
  v37 := Tryd.zeroValue22,
  t46 := Tryd.underlying60,
  a46 := Tryd.isAgg60,
  z46 := Tryd.sizeOf60,
  v46 := Tryd.zeroValue60,
  t51 := Tryd.underlying56,
  a51 := Tryd.isAgg56,
  z51 := Tryd.sizeOf56,
  v51 := Tryd.zeroValue56,
  t146 := Tryd.underlying69,
  a146 := Tryd.isAgg69,
  z146 := Tryd.sizeOf69,
  v146 := Tryd.zeroValue69,
  g1 := by kernel_rfl,
  i0 := by kernel_rfl,
  i3 := by kernel_rfl,
  i4 := by kernel_rfl,
  i5 := by kernel_rfl,
  i9 := by kernel_rfl,
  i37 := by kernel_rfl,
  i46 := by kernel_rfl,
  i51 := by kernel_rfl,
  i146 := by kernel_rfl,
  m1 := by kernel_rfl,
  s1_3 := fun w h => Go.Proofs.cell_of_shapedOpen_int (zero := #[.int .i64 0]) (t := 3) h (of_decide_eq_true (by kernel_rfl)) (by kernel_rfl) rfl (by kernel_rfl) (by kernel_rfl) Tryd.underlying3 }
def lcnt_ren : Go.Shelf.Ren := ⟨fun | 13 => 47 | 24 => 50 | 25 => 51 | 12 => 48 | 31 => 56 | 19 => 52 | 20 => 49 | 21 => 53 | 22 => 54 | 23 => 55 | 29 => 57 | 30 => 58 | n => n, fun | 22 => 22 | 3 => 3 | 4 => 4 | 0 => 0 | 5 => 5 | 9 => 9 | 33 => 60 | 40 => 69 | 39 => 56 | n => n, fun | 0 => 2 | n => n⟩
theorem lcnt : Go.Proofs.SlLaysC.n13 Tryd.prog lcnt_ren := {
  mixed := by kernel_rfl,
  f12 := Tryd.func48.trans (congrArg some (by kernel_rfl)),
  f13 := Tryd.func47.trans (congrArg some (by kernel_rfl)),
  f19 := Tryd.func52.trans (congrArg some (by kernel_rfl)),
  f20 := Tryd.func49.trans (congrArg some (by kernel_rfl)),
  f21 := Tryd.func53.trans (congrArg some (by kernel_rfl)),
  f22 := Tryd.func54.trans (congrArg some (by kernel_rfl)),
  f23 := Tryd.func55.trans (congrArg some (by kernel_rfl)),
  f25 := Tryd.func51.trans (congrArg some (by kernel_rfl)),
  f29 := Tryd.func57.trans (congrArg some (by kernel_rfl)),
  f30 := Tryd.func58.trans (congrArg some (by kernel_rfl)),
  t0 := Tryd.underlying0,
  a0 := Tryd.isAgg0,
  z0 := Tryd.sizeOf0,
  v0 := Tryd.zeroValue0,
  t3 := Tryd.underlying3,
  a3 := Tryd.isAgg3,
  z3 := Tryd.sizeOf3,
  v3 := Tryd.zeroValue3,
  t4 := Tryd.underlying4,
  a4 := Tryd.isAgg4,
  z4 := Tryd.sizeOf4,
  v4 := Tryd.zeroValue4,
  t5 := Tryd.underlying5,
  a5 := Tryd.isAgg5,
  z5 := Tryd.sizeOf5,
  v5 := Tryd.zeroValue5,
  t9 := Tryd.underlying9,
  a9 := Tryd.isAgg9,
  z9 := Tryd.sizeOf9,
  v9 := Tryd.zeroValue9,
  t22 := Tryd.underlying22,
  a22 := Tryd.isAgg22,
  z22 := Tryd.sizeOf22,
  v22 := Tryd.zeroValue22,
  t33 := Tryd.underlying60,
  a33 := Tryd.isAgg60,
  z33 := Tryd.sizeOf60,
  v33 := Tryd.zeroValue60,
  t39 := Tryd.underlying56,
  a39 := Tryd.isAgg56,
  z39 := Tryd.sizeOf56,
  v39 := Tryd.zeroValue56,
  t40 := Tryd.underlying69,
  a40 := Tryd.isAgg69,
  z40 := Tryd.sizeOf69,
  v40 := Tryd.zeroValue69,
  g0 := by kernel_rfl }
def ltrim_ren : Go.Shelf.Ren := ⟨fun | 139 => 40 | 116 => 46 | 115 => 49 | n => n, fun | 37 => 22 | 4 => 4 | 3 => 3 | 9 => 9 | 5 => 5 | n => n, fun | n => n⟩
theorem ltrim : Go.Proofs.Lays.nb139 Tryd.prog ltrim_ren := {
  mixed := by kernel_rfl,
  f115 := Tryd.func49.trans (congrArg some (by kernel_rfl)),
  f116 := Tryd.func46.trans (congrArg some (by kernel_rfl)),
  f139 := Tryd.func40.trans (congrArg some (by kernel_rfl)),
  t3 := Tryd.underlying3,
  a3 := Tryd.isAgg3,
  z3 := Tryd.sizeOf3,
  v3 := Tryd.zeroValue3,
  t4 := Tryd.underlying4,
  a4 := Tryd.isAgg4,
  z4 := Tryd.sizeOf4,
  v4 := Tryd.zeroValue4,
  t9 := Tryd.underlying9,
  a9 := Tryd.isAgg9,
  z9 := Tryd.sizeOf9,
  v9 := Tryd.zeroValue9,
  t37 := Tryd.underlying22,
  a37 := Tryd.isAgg22,
  z37 := Tryd.sizeOf22,
  v37 := Tryd.zeroValue22,
  t5 := Tryd.underlying5,
  a5 := Tryd.isAgg5,
  z5 := Tryd.sizeOf5,
  v5 := Tryd.zeroValue5 }
def u8L (xs : List Nat) : List UInt8 := xs.map UInt8.ofNat
def ints (xs : List Nat) : List Int := xs.map fun x : Nat => (x : Int)
theorem bytesOf_ints (xs : List Nat) : Lib.bytesOf (ints xs) = u8L xs := by simp [Lib.bytesOf, ints, u8L]
theorem u8L_len (xs : List Nat) : (u8L xs).length = xs.length := by simp [u8L]
theorem u8L_drop (xs : List Nat) (k : Nat) : u8L (xs.drop k) = (u8L xs).drop k := by simp [u8L]
theorem ints_len (xs : List Nat) : (ints xs).length = xs.length := by simp [ints]
theorem ints_bd {xs : List Nat} (hb : Bs xs) : ∀ x ∈ ints xs, 0 ≤ x ∧ x < 256 := by
  intro x hx
  obtain ⟨y, hy, rfl⟩ := List.mem_map.1 hx
  have := hb y hy
  omega
theorem ints_at (xs : List Nat) (j : Nat) : (ints xs).getD j 0 = ((xs.getD j 0 : Nat) : Int) := by
  simp only [ints, List.getD, List.getElem?_map]
  cases xs[j]? <;> simp
theorem Sl.addr {w : World} {ad : Addr} {c : Nat} {xs : List Nat} (h : Sl w (some ad) c xs) : ∀ i, i < xs.length → w.cell? (ad.add i) = some (.int .u8 ((ints xs).getD i 0)) := fun i hi => by
  rcases h.src with h0 | ⟨b, o, e, hc⟩
  · rw [h0] at hi; simp at hi
  · obtain rfl := Option.some.inj e
    rw [Addr.add_lit, ints_at]
    exact hc i hi
/-- bytes.Count. -/
theorem count_any (ao ao2 : Option Addr) (c c2 : Nat) (xs ys : List Nat) (w : World) (h : Sl w ao c xs) (h2 : Sl w ao2 c2 ys) (hm : xs.length ≤ 1000000000) (hy : 1 ≤ ys.length) (hy2 : ys.length ≤ 1000) (hT : TU w) :
    Calls Tryd.prog 47 #[.slice ao xs.length c, .slice ao2 ys.length c2] w fun e w' => e = .returned (.int .i64 (Lib.count (u8L xs) (u8L ys))) ∧ Drew w w' := by
  obtain ⟨m, hmm⟩ := hT.len
  cases ao2 with
  | none => have := h2.nil rfl; have := h2.le; omega
  | some ad2 =>
  cases ao with
  | none =>
    have h0 := h.nil rfl
    have h1 := h.le
    have hx : xs = [] := List.eq_nil_of_length_eq_zero (by omega)
    subst hx
    subst h0
    have e0 : Lib.count (u8L []) (u8L ys) = 0 := by
      refine Lib.count_miss (Lib.index_long (by simp [u8L]) fun e => ?_)
      have e1 := congrArg List.length e
      rw [u8L_len, u8L_len, List.length_nil] at e1
      omega
    have K := Any.bytes_Count_nil_any lcnt (some ad2) ys.length c2 w hy (by omega) (fun h1 => by
      obtain ⟨b, o, spot⟩ := ad2
      have := h2.addr 0 (by omega)
      have hspot : spot = none := by simpa [Addr.add] using World.cell?_spot this
      subst hspot
      rw [Addr.add_lit] at this
      exact ⟨b, o, _, rfl, this⟩)
    rw [e0]
    exact K.mono fun e w' ⟨he, hw⟩ => ⟨he, ⟨0, hw⟩⟩
  | some ad =>
    have K := Any.bytes_Count_any lcnt ad ad2 xs.length c ys.length c2 (ints xs) (ints ys) m w (ints_len _) (ints_len _) (ints_bd h.bs) (ints_bd h2.bs) h.addr h2.addr h.le (by omega) (by omega) hy hmm
    rw [bytesOf_ints, bytesOf_ints] at K
    exact K
/-- bytes.Index. -/
theorem index_any (ad : Addr) (ao2 : Option Addr) (c c2 : Nat) (xs ys : List Nat) (w : World) (h : Sl w (some ad) c xs) (h2 : Sl w ao2 c2 ys) (hm : xs.length ≤ 1000000000) (hy : 1 ≤ ys.length) (hy2 : ys.length ≤ 1000) (hT : TU w) :
    Calls Tryd.prog 48 #[.slice (some ad) xs.length c, .slice ao2 ys.length c2] w fun e w' => e = .returned (.int .i64 (Lib.index (u8L xs) (u8L ys))) ∧ Drew w w' := by
  obtain ⟨m, hmm⟩ := hT.len
  cases ao2 with
  | none => have := h2.nil rfl; have := h2.le; omega
  | some ad2 =>
    have K := Any.bytes_Index_at { lidx with } ad ad2 xs.length c ys.length c2 (ints xs) (ints ys) m w (ints_len _) (ints_len _) (ints_bd h.bs) (ints_bd h2.bs) h.addr h2.addr h.le (by omega) (by omega) hmm
    rw [bytesOf_ints, bytesOf_ints] at K
    exact K
end Go.Proofs.YtmnkdnlmpgmdgaaDoor
