
/-
  What the laws of layer 7 need of Find, Expand and Same (Prg); CopyBytes; the law's first look.
-/
import Derived.Test.YtjjjchdocnoabaaDoorKd
import Derived.Lib.SlBytesConst
namespace Go.Proofs.YtjjjchdocnoabaaDoor
open Go.RowKit
set_option maxRecDepth 100000

/-- Tokens that fit their fields. -/
def Fit (r : List M.Tok) : Prop := ∀ t ∈ r, t.lit < 256 ∧ t.len ≤ 1000000 ∧ t.dist ≤ 1000000
/-- What Find answers. -/
def FindTo (bs : List Nat) (level : Int) (w : World) (e : Ending) (w' : World) : Prop :=
  ∃ ao c r, e = .returned (.slice ao r.length c) ∧ KS w' ao r ∧ Below w.heap.size w w' ∧ (r.length ≤ c ∧ (ao = none → c = 0)) ∧ M.ex r [] = some bs ∧ (∀ t ∈ r, t.lit < 256) ∧ (level ≤ 0 → ∀ t ∈ r, t.len = 0) ∧ (0 < level → (∃ t ∈ r, t.len ≠ 0) ∨ M.NoFour bs)
/-- What Expand answers. -/
def ExpTo (r : List M.Tok) (lim : Nat) (w : World) (e : Ending) (w' : World) : Prop :=
  Below w.heap.size w w' ∧ ((∃ er : Nat, M.exL lim r [] = .inl er ∧ e = .returned (.tuple #[.slice none 0 0, .int .i64 (er : Nat)])) ∨
    ∃ m ao c, M.exL lim r [] = .inr m ∧ e = .returned (.tuple #[.slice ao m.length c, .int .i64 0]) ∧ w'.ownsRow w.heap.size 5 1 (.slice ao m.length c) m.length (u8s m))
/-- The program's functions keep this (Tb: what its tables hold). -/
structure Prg (Tb : World → Prop) : Prop where
  keep : ∀ {W W' : World}, Tb W → Below W.heap.size W W' → Tb W'
  find : ∀ (W : World) (v : Value) (bs : List Nat) (level : Int), Tb W → BySl W v bs → Bs bs → bs.length ≤ 5000 → Calls Tryd.prog 8 #[v, .int .i64 level] W (FindTo bs level W)
  expand : ∀ (W : World) (ao : Option Addr) (c : Nat) (r : List M.Tok) (limit : Int), KS W ao r → r.length ≤ 100000 → Fit r → limit ≤ 2000000 → Calls Tryd.prog 13 #[.slice ao r.length c, .int .i64 limit] W (ExpTo r limit.toNat W)
  same : ∀ (W : World) (v : Value) (bs : List Nat) (at_ dist most : Nat), BySl W v bs → bs.length ≤ 5000 → at_ < bs.length → 1 ≤ dist → dist ≤ at_ → most ≤ 1000000 →
    Calls Tryd.prog 14 #[v, .int .i64 at_, .int .i64 dist, .int .i64 most] W fun e w' => e = .returned (.int .i64 (M.same bs at_ dist most : Nat)) ∧ ∃ q, w' = W.drewN q

theorem ex_right {r : List M.Tok} : ∀ {l m : List Nat}, M.ex r l = some m → ∀ t ∈ r, M.Right t := by
  induction r with
  | nil => intro l m _ t ht; cases ht
  | cons u r ih =>
    intro l m h t ht
    rw [M.ex] at h
    split at h
    · rename_i hr
      rcases List.mem_cons.1 ht with rfl | ht
      · exact hr.1
      · exact ih h t ht
    · cases h
theorem fit_of {r : List M.Tok} {l m : List Nat} (h : M.ex r l = some m) (h8 : ∀ t ∈ r, t.lit < 256) : Fit r := fun t ht => by
  have := ex_right h t ht
  unfold M.Right at this
  exact ⟨h8 t ht, by omega, by omega⟩
theorem Fit.take {r : List M.Tok} (h : Fit r) (k : Nat) : Fit (r.take k) := fun t ht => h t (List.mem_of_mem_take ht)
theorem exL_more {lim : Nat} {x : List M.Tok} : ∀ {l m : List Nat}, M.ex x l = some m → lim < m.length → l.length ≤ lim → M.exL lim x l = .inl 14 := by
  induction x with
  | nil => intro l m h h1 h2; cases h; omega
  | cons t x ih =>
    intro l m h h1 h2
    rw [M.ex] at h
    split at h
    · rename_i hr
      rw [M.exL, if_neg (by simpa using hr)]
      split
      · rfl
      · exact ih h h1 (by rw [M.one_len]; omega)
    · cases h
theorem len_flat {r : List M.Tok} (h : ∀ t ∈ r, t.len = 0) : r.length = M.sum r := by
  induction r with
  | nil => rfl
  | cons t r ih =>
    rw [M.sum_cons, List.length_cons, ih fun u hu => h u (List.mem_cons_of_mem _ hu)]
    have : M.tells t = 1 := by unfold M.tells; rw [h t (List.mem_cons_self ..)]; rfl
    omega
theorem sum_of {r : List M.Tok} {m : List Nat} (h : M.ex r [] = some m) : M.sum r = m.length := by have := M.ex_len h; simpa using this.symm
theorem few_of {r : List M.Tok} {m : List Nat} (h : M.ex r [] = some m) : r.length ≤ m.length := by rw [← sum_of h]; exact M.len_le_sum r
theorem fewer_of {r : List M.Tok} {m : List Nat} (h : M.ex r [] = some m) (hc : ∃ t ∈ r, t.len ≠ 0) : r.length < m.length := by
  rw [← sum_of h]
  refine M.len_lt_sum ?_
  obtain ⟨t, ht, h0⟩ := hc
  have := ex_right h t ht
  unfold M.Right at this
  exact ⟨t, ht, by unfold M.tells; omega⟩

theorem own_lit7 (w : World) : (w.alloc (.cells #[] 5)).ownsRow w.heap.size 5 1 (.slice (some ⟨w.heap.size, 0, none⟩) 0 0) 0 (u8s []) :=
  ⟨by simp [u8s], .inr ⟨w.heap.size, 0, #[], rfl, Nat.le_refl _, Blk.made w 5 #[], by simp, by simp [u8s]⟩⟩
theorem lit_by (w : World) (xs : List Nat) (cs : Array Value) (n q : Nat) (z : Nat × Nat) (hq : q = w.heap.size) (hn : xs.length = n) (hc : cs = (u8s xs).toArray) : BySl (w.alloc (.cells cs 5 z)) (.slice (some ⟨q, 0, none⟩) n n) xs := by
  subst hn hc hq
  refine .inr ⟨⟨w.heap.size, 0, none⟩, xs.length, rfl, Nat.le_refl _, fun j u hu => ?_⟩
  have : (w.alloc (.cells (u8s xs).toArray 5 z)).cell? ⟨w.heap.size, j, none⟩ = (u8s xs).toArray[j]? := cell_of_row _ _ j _ 5 z (heap_alloc_new w _)
  rw [show (⟨w.heap.size, 0, none⟩ : Addr).add j = ⟨w.heap.size, j, none⟩ by simp [Addr.add]; omega, this]
  simpa using hu
theorem bel_alloc {w w1 : World} (h : Below w.heap.size w w1) (o : Obj) : Below w.heap.size w (w1.alloc o) := h.alloc h.size o

theorem copy7_any {w : World} {v : Value} {xs : List Nat} (h : BySl w v xs) (hl : xs.length ≤ 100000) :
    Calls Tryd.prog 7 #[v] w fun e w' => ∃ ao c, e = .returned (.slice ao xs.length c) ∧ w'.ownsRow w.heap.size 5 1 (.slice ao xs.length c) xs.length (u8s xs) ∧ Below w.heap.size w w' := by
  obtain ⟨aos, cs, rfl⟩ := by_shape h
  have hb0 := bel_alloc (Below.refl w.heap.size w) (.cells #[] 5)
  have HS := Lib.hid (by_on h hb0)
  have hsz := asize w (.cells #[] 5)
  have HB0 := Lib.hid hb0
  clear h hb0
  go_enter Tryd.func7, Tryd.ntmps7
  go_wp2_with (refine wpList_append_x rfl (.tmp 5) (.tmp 6) rfl w.heap.size (.slice (some ⟨w.heap.size, 0, none⟩) 0 0) (.slice aos xs.length cs) [] xs rfl rfl (own_lit7 w) HS.out (by omega) (by simp; omega) ?_; intro ao2 cc2 w5 hA; rw [List.nil_append] at hA; have HA := Lib.hid hA; clear hA)
  go_ret
  refine ⟨ao2, cc2, rfl, HA.out.own, ?_⟩
  refine HB0.out.trans ((HA.out.touch).below (by omega) fun k hk => ?_)
  simp only [Value.ownBlock, Option.some.injEq] at hk
  omega

/-- Ten bytes of one kind. -/
def tenA : List Nat := List.replicate 10 97
theorem ten_four : M.four tenA 1 1 := by unfold M.four; decide

theorem kr_lit (w : World) : KS (w.alloc (.cells #[.int .u8 0, .int .i64 3, .int .i64 1] 34)) (some ⟨w.heap.size, 0, none⟩) [⟨0, 3, 1⟩] := by
  refine .inr ⟨_, 0, rfl, fun j v hv => ?_⟩
  rw [Nat.zero_add, (Blk.made w 34 _).cell]
  simpa [tcl] using hv

set_option maxHeartbeats 3200000 in
theorem alive7_any {Tb : World → Prop} (P : Prg Tb) (w : World) (hT : Tb w) : Calls Tryd.prog 6 #[] w fun e w' => e = .returned (.bool true) ∧ Below w.heap.size w w' := by
  have HP := Lib.hid P
  have HT := Lib.hid hT
  have hb0 := bel_alloc (Below.refl w.heap.size w) (.cells (u8s tenA).toArray 5 (10, 11))
  have HB0 := Lib.hid hb0
  have HS0 := Lib.hid (lit_by w tenA (u8s tenA).toArray 10 w.heap.size (10, 11) rfl rfl rfl)
  have hcv := fun (w : World) (C : Array Value) (n c : Nat) => Lib.run_convert_bytes_const (P := Tryd.prog) w 22 5 C n c Tryd.underlying22 Tryd.underlying5
  clear P hT hb0
  go_enter Tryd.func6, Tryd.ntmps6
  go_wp2_with fail
  clear hcv
  refine (HP.out.find _ _ tenA 6 (HP.out.keep HT.out HB0.out) HS0.out (fun x hx => by rw [List.eq_of_mem_replicate hx]; decide) (by decide)).mono ?_
  rintro e w1 ⟨ao, c, r, rfl, hks, hbel, hcap, hex, h8, _, hor⟩
  have hfew : r.length < 10 := fewer_of hex ((hor (by omega)).resolve_right fun h => h 1 1 (by omega) ten_four)
  have HF := Lib.hid (fit_of hex h8)
  have HX := Lib.hid hex
  have HB1 := Lib.hid (bel_on HB0.out hbel)
  have HK := Lib.hid hks
  have HS1 := Lib.hid (by_on HS0.out hbel)
  have HRL : Hid (r.length ≤ 100000) := Lib.hid (by omega)
  obtain ⟨n, hn⟩ : ∃ n, n = r.length := ⟨_, rfl⟩
  have HN := Lib.hid hn
  rw [← hn] at hfew ⊢
  clear hn hks hbel hcap hex h8 hor HS0 HB0
  generalize w.heap.size = q0 at HS1 ⊢
  go_wp2_with fail
  have hE1 := HP.out.expand w1 ao c r 10 HK.out HRL.out HF.out (by omega)
  rw [← HN.out] at hE1
  refine hE1.mono ?_
  clear hE1
  rintro e w2 ⟨hb2, h2⟩
  have h10 : M.exL (10 : Int).toNat r [] = .inr tenA := M.exL_ok HX.out (by decide)
  obtain ⟨ao2, c2, rfl, ho2⟩ : ∃ ao2 c2, e = .returned (.tuple #[.slice ao2 10 c2, .int .i64 0]) ∧ w2.ownsRow w1.heap.size 5 1 (.slice ao2 10 c2) 10 (u8s tenA) := by
    rcases h2 with ⟨er, h, _⟩ | ⟨m, a2, c2, h, he, ho⟩
    · rw [h10] at h; cases h
    · rw [h10] at h; cases h; exact ⟨a2, c2, he, ho⟩
  have HB2 := Lib.hid (bel_on HB1.out hb2)
  have HK2 := Lib.hid (HK.out.on hb2)
  have HS2 := Lib.hid (by_on HS1.out hb2)
  have HY2 := Lib.hid (BySl.own (xs := tenA) ho2)
  clear h2 h10 hb2 ho2 HK HS1 HB1
  go_wp2_with fail
  have hE1 := HP.out.expand w2 ao c r 9 HK2.out HRL.out HF.out (by omega)
  rw [← HN.out] at hE1
  refine hE1.mono ?_
  clear hE1
  rintro e w3 ⟨hb3, h3⟩
  have h9 : M.exL (9 : Int).toNat r [] = .inl 14 := exL_more HX.out (by decide) (by decide)
  obtain rfl : e = .returned (.tuple #[.slice none 0 0, .int .i64 14]) := by
    rcases h3 with ⟨er, h, he⟩ | ⟨m, a2, c2, h, he, ho⟩
    · rw [h9] at h; cases h; exact he
    · rw [h9] at h; cases h
  have hb3' := bel_alloc (Below.refl w3.heap.size w3) (.cells #[.int .u8 0, .int .i64 3, .int .i64 1] 34)
  have HB3 := Lib.hid (bel_on (bel_on HB2.out hb3) hb3')
  have HS3 := Lib.hid (by_on (by_on HS2.out hb3) hb3')
  have HY3 := Lib.hid (by_on (by_on HY2.out hb3) hb3')
  have HKL := Lib.hid (kr_lit w3)
  clear h3 h9 hb3 hb3' HK2 HS2 HB2 HY2
  go_wp2_with fail
  have hE1 := HP.out.expand (w3.alloc (.cells #[.int .u8 0, .int .i64 3, .int .i64 1] 34)) (some ⟨w3.heap.size, 0, none⟩) 1 [⟨0, 3, 1⟩] 9 HKL.out (by decide) (fun t ht => by rw [List.mem_singleton.1 ht]; decide) (by omega)
  refine hE1.mono ?_
  clear hE1
  rintro e w4 ⟨hb4, h4⟩
  have h9 : M.exL (9 : Int).toNat [⟨0, 3, 1⟩] [] = .inl 10 := by decide
  obtain rfl : e = .returned (.tuple #[.slice none 0 0, .int .i64 10]) := by
    rcases h4 with ⟨er, h, he⟩ | ⟨m, a2, c2, h, he, ho⟩
    · rw [h9] at h; cases h; exact he
    · rw [h9] at h; cases h
  have HB4 := Lib.hid (bel_on HB3.out hb4)
  have HS4 := Lib.hid (by_on HS3.out hb4)
  have HY4 := Lib.hid (by_on HY3.out hb4)
  have hd10 : (n : Int) < 10 := by omega
  clear h4 h9 hb4 HS3 HB3 HY3 HKL
  go_wp2_with fail
  refine (same_any HY4.out HS4.out (by decide)).mono ?_
  rintro e w5 ⟨he, nq, hw5⟩
  rw [decide_eq_true rfl] at he
  subst he
  have hb5 := below_drewN (Below.refl w4.heap.size w4) nq
  rw [← hw5] at hb5
  have HB5 := Lib.hid (bel_on HB4.out hb5)
  have HS5 := Lib.hid (by_on HS4.out hb5)
  clear hw5 hb5 HS4 HY4 HB4
  go_wp2_with fail
  refine (HP.out.find _ _ tenA 0 (HP.out.keep HT.out HB5.out) HS5.out (fun x hx => by rw [List.eq_of_mem_replicate hx]; decide) (by decide)).mono ?_
  rintro e w6 ⟨ao6, c6, r6, rfl, _, hb6, _, hex6, _, hz6, _⟩
  have hl6 : r6.length = 10 := by rw [len_flat (hz6 (by omega)), sum_of hex6]; rfl
  rw [hl6]
  have HB6 := Lib.hid (bel_on HB5.out hb6)
  have HS6 := Lib.hid (by_on HS5.out hb6)
  clear hb6 hex6 hz6 hl6 HS5 HB5
  go_wp2_with fail
  refine (HP.out.same _ _ tenA 3 2 5 HS6.out (by decide) (by decide) (by decide) (by decide) (by decide)).mono ?_
  rintro e w7 ⟨rfl, nq7, rfl⟩
  rw [show M.same tenA 3 2 5 = 5 by decide]
  go_wp2
  go_ret
  exact ⟨rfl, below_drewN HB6.out _⟩
end Go.Proofs.YtjjjchdocnoabaaDoor
