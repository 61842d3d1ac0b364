/- Part 19. -/
import Derived.Test.YtbogfailbgbdoaaGreatDoorXA18
set_option linter.unusedVariables false
set_option linter.unusedSimpArgs false
namespace Go.Proofs.YtbogfailbgbdoaaGreatDoor.K
set_option maxRecDepth 100000
section
open Go.RowKit Go.Proofs.YtbogfailbgbdoaaGreatDoor U
set_option maxHeartbeats 6400000 in
theorem rows_e1 (aoa aob:Option Addr) (na nb ca cb:Nat) (w:World) (h:(1500:Int)<na)
  (KA:Hid (Calls Tryz.prog 8 #[] w fun e w'=>e = .returned (.bool true)∧Below w.heap.size w w'))
: Calls Tryz.prog 7 #[.slice aoa na ca,.slice aob nb cb] w fun e w'=>e = .returned (.bool true)∧Below w.heap.size w w':=by
 go_enter Tryz.func7,Tryz.ntmps7
 go_wp2_with (go_at_call 8;(with_reducible refine KA.out.mono ?_);rintro e w1 ⟨rfl,hb⟩;have HB1:=Lib.hid hb;clear hb)
 go_ret
 exact ⟨rfl,HB1.out⟩
set_option maxHeartbeats 6400000 in
theorem rows_e2 (aoa aob:Option Addr) (na nb ca cb:Nat) (w:World) (e1:¬(1500:Int)<na) (h:(1500:Int)<nb)
  (KA:Hid (Calls Tryz.prog 8 #[] w fun e w'=>e = .returned (.bool true)∧Below w.heap.size w w'))
: Calls Tryz.prog 7 #[.slice aoa na ca,.slice aob nb cb] w fun e w'=>e = .returned (.bool true)∧Below w.heap.size w w':=by
 go_enter Tryz.func7,Tryz.ntmps7
 go_wp2_with (go_at_call 8;(with_reducible refine KA.out.mono ?_);rintro e w1 ⟨rfl,hb⟩;have HB1:=Lib.hid hb;clear hb)
 go_ret
 exact ⟨rfl,HB1.out⟩
set_option maxHeartbeats 6400000 in
theorem rows_e3 (aoa aob:Option Addr) (na nb ca cb:Nat) (T:ByteArray) (w:World) (e1:¬(1500:Int)<na) (e2:¬(1500:Int)<nb)
  (KA:Hid (Calls Tryz.prog 8 #[] w fun e w'=>e = .returned (.bool true)∧Below w.heap.size w w'))
  (HCV:Hid (∀ W,Below w.heap.size w W→(convert 22 9 (.slice aoa na ca)).run Tryz.prog W = .ok (.string T) W))
  (KI:Hid (∀ W,Calls Tryz.prog 17 #[.string T,.string ⟨#[13]⟩] W fun e w'=>e = .returned (.bool true)∧w'=W))
: Calls Tryz.prog 7 #[.slice aoa na ca,.slice aob nb cb] w fun e w'=>e = .returned (.bool true)∧Below w.heap.size w w':=by
 go_enter Tryz.func7,Tryz.ntmps7
 go_wp2_with (first
  | (go_at_call 8;(with_reducible refine KA.out.mono ?_);rintro e w1 ⟨rfl,hb⟩;have HB1:=Lib.hid hb;have hcv1:=HCV.out w1 hb;clear hb)
  | (go_at_call 17;(with_reducible refine (KI.out _).mono ?_);rintro e w2 ⟨rfl,rfl⟩))
 go_ret
 exact ⟨rfl,HB1.out⟩
set_option maxHeartbeats 6400000 in
theorem rows_e4 (aoa:Option Addr) (gb offb na nb ca cb:Nat) (T:ByteArray) (w:World) (e1:¬(1500:Int)<na) (e2:¬(1500:Int)<nb) (hnb:(0:Int)<nb)
  (KA:Hid (Calls Tryz.prog 8 #[] w fun e w'=>e = .returned (.bool true)∧Below w.heap.size w w'))
  (HCV:Hid (∀ W,Below w.heap.size w W→(convert 22 9 (.slice aoa na ca)).run Tryz.prog W = .ok (.string T) W))
  (KI:Hid (∀ W,Calls Tryz.prog 17 #[.string T,.string ⟨#[13]⟩] W fun e w'=>e = .returned (.bool false)∧w'=W))
  (HB:Hid (∀ W,Below w.heap.size w W→W.cell? ⟨gb,offb,none⟩=some (.int .u8 239))):Calls Tryz.prog 7 #[.slice aoa na ca,.slice (some ⟨gb,offb,none⟩) nb cb] w fun e w'=>e = .returned (.bool true)∧Below w.heap.size w w':=by
 go_enter Tryz.func7,Tryz.ntmps7
 go_wp2_with (first
  | (go_at_call 8;(with_reducible refine KA.out.mono ?_);rintro e w1 ⟨rfl,hb⟩;have HB1:=Lib.hid hb;have hcv1:=HCV.out w1 hb;have d0:=HB.out w1 hb;clear hb)
  | (go_at_call 17;(with_reducible refine (KI.out _).mono ?_);rintro e w2 ⟨rfl,rfl⟩))
 go_ret
 exact ⟨rfl,HB1.out⟩
def No239 (w:World) (ao:Option Addr) (n:Nat):Prop:=(¬(0:Int)<n)∨∃ g off x,ao=some ⟨g,off,none⟩∧(0:Int)<n∧(∀ W,Below w.heap.size w W→W.cell? ⟨g,off,none⟩=some (.int .u8 x))∧x≠239
set_option maxHeartbeats 12800000 in
theorem rows_ea (aoa aob:Option Addr) (na nb ca cb:Nat) (T:ByteArray) (w:World) (e1:¬(1500:Int)<na) (e2:¬(1500:Int)<nb) (hB:No239 w aob nb) (a er:Nat) (her:er≠0)
  (KA:Hid (Calls Tryz.prog 8 #[] w fun e w'=>e = .returned (.bool true)∧Below w.heap.size w w'))
  (HCV:Hid (∀ W,Below w.heap.size w W→(convert 22 9 (.slice aoa na ca)).run Tryz.prog W = .ok (.string T) W))
  (KI:Hid (∀ W,Calls Tryz.prog 17 #[.string T,.string ⟨#[13]⟩] W fun e w'=>e = .returned (.bool false)∧w'=W))
  (K10a:Hid (∀ W,Below w.heap.size w W→Calls Tryz.prog 10 #[.slice aoa na ca] W fun e w'=>Below w.heap.size w w'∧e = .returned (.tuple #[.slice none 0 0,.int .i64 (a:Nat),.int .i64 (er:Nat)])))
  (K10b:Hid (∀ W,Below w.heap.size w W→Calls Tryz.prog 10 #[.slice aob nb cb] W fun e w'=>Below w.heap.size w w'∧∃ a n c p q,e = .returned (.tuple #[.slice a n c,.int .i64 p,.int .i64 q]))):Calls Tryz.prog 7 #[.slice aoa na ca,.slice aob nb cb] w fun e w'=>e = .returned (.bool true)∧Below w.heap.size w w':=by
 have hne:((er:Int) != 0)=true:=bne_iff_ne.2 (by omega)
 have hne2:¬(er:Int)=0:=by omega
 rcases hB with e0 | ⟨g,off,x,rfl,e0,hc0,hx⟩
 ·go_enter Tryz.func7,Tryz.ntmps7
  go_wp2_with (first
   | (go_at_call 8;(with_reducible refine KA.out.mono ?_);rintro e w1 ⟨rfl,hb⟩;have HB1:=Lib.hid hb;have hcv1:=HCV.out w1 hb;clear hb)
   | (go_at_call 17;(with_reducible refine (KI.out _).mono ?_);rintro e w2 ⟨rfl,rfl⟩)
   | (go_at_call 10;(with_reducible refine (K10a.out _ HB1.out).mono ?_);rintro e w3 ⟨hb,rfl⟩;have HB3:=Lib.hid hb;clear hb)
   | (go_at_call 10;(with_reducible refine (K10b.out w3 HB3.out).mono ?_);rintro e w4 ⟨hb,a4,n4,c4,p4,q4,rfl⟩;have HB4:=Lib.hid hb;clear hb))
  go_ret
  exact ⟨rfl,HB4.out⟩
 ·have HC0:=Lib.hid hc0
  have hxb:(x == 239)=false:=beq_eq_false_iff_ne.2 hx
  clear hc0
  go_enter Tryz.func7,Tryz.ntmps7
  go_wp2_with (first
   | (go_at_call 8;(with_reducible refine KA.out.mono ?_);rintro e w1 ⟨rfl,hb⟩;have HB1:=Lib.hid hb;have hcv1:=HCV.out w1 hb;have d0:=HC0.out w1 hb;clear hb)
   | (go_at_call 17;(with_reducible refine (KI.out _).mono ?_);rintro e w2 ⟨rfl,rfl⟩)
   | (go_at_call 10;(with_reducible refine (K10a.out _ HB1.out).mono ?_);rintro e w3 ⟨hb,rfl⟩;have HB3:=Lib.hid hb;clear hb)
   | (go_at_call 10;(with_reducible refine (K10b.out w3 HB3.out).mono ?_);rintro e w4 ⟨hb,a4,n4,c4,p4,q4,rfl⟩;have HB4:=Lib.hid hb;clear hb))
  go_ret
  exact ⟨rfl,HB4.out⟩
set_option maxHeartbeats 12800000 in
theorem rows_eb (aoa aob:Option Addr) (na nb ca cb:Nat) (T:ByteArray) (w:World) (e1:¬(1500:Int)<na) (e2:¬(1500:Int)<nb) (hB:No239 w aob nb) (a er:Nat) (her:er≠0)
  (KA:Hid (Calls Tryz.prog 8 #[] w fun e w'=>e = .returned (.bool true)∧Below w.heap.size w w'))
  (HCV:Hid (∀ W,Below w.heap.size w W→(convert 22 9 (.slice aoa na ca)).run Tryz.prog W = .ok (.string T) W))
  (KI:Hid (∀ W,Calls Tryz.prog 17 #[.string T,.string ⟨#[13]⟩] W fun e w'=>e = .returned (.bool false)∧w'=W))
  (K10a:Hid (∀ W,Below w.heap.size w W→Calls Tryz.prog 10 #[.slice aoa na ca] W fun e w'=>Below w.heap.size w w'∧∃ a n c,e = .returned (.tuple #[.slice a n c,.int .i64 0,.int .i64 0])))
  (K10b:Hid (∀ W,Below w.heap.size w W→Calls Tryz.prog 10 #[.slice aob nb cb] W fun e w'=>Below w.heap.size w w'∧e = .returned (.tuple #[.slice none 0 0,.int .i64 (a:Nat),.int .i64 (er:Nat)]))):Calls Tryz.prog 7 #[.slice aoa na ca,.slice aob nb cb] w fun e w'=>e = .returned (.bool true)∧Below w.heap.size w w':=by
 have hne:((er:Int) != 0)=true:=bne_iff_ne.2 (by omega)
 have hne2:¬(er:Int)=0:=by omega
 rcases hB with e0 | ⟨g,off,x,rfl,e0,hc0,hx⟩
 ·go_enter Tryz.func7,Tryz.ntmps7
  go_wp2_with (first
   | (go_at_call 8;(with_reducible refine KA.out.mono ?_);rintro e w1 ⟨rfl,hb⟩;have HB1:=Lib.hid hb;have hcv1:=HCV.out w1 hb;clear hb)
   | (go_at_call 17;(with_reducible refine (KI.out _).mono ?_);rintro e w2 ⟨rfl,rfl⟩)
   | (go_at_call 10;(with_reducible refine (K10a.out _ HB1.out).mono ?_);rintro e w3 ⟨hb,a3,n3,c3,rfl⟩;have HB3:=Lib.hid hb;clear hb)
   | (go_at_call 10;(with_reducible refine (K10b.out w3 HB3.out).mono ?_);rintro e w4 ⟨hb,rfl⟩;have HB4:=Lib.hid hb;clear hb))
  go_ret
  exact ⟨rfl,HB4.out⟩
 ·have HC0:=Lib.hid hc0
  have hxb:(x == 239)=false:=beq_eq_false_iff_ne.2 hx
  clear hc0
  go_enter Tryz.func7,Tryz.ntmps7
  go_wp2_with (first
   | (go_at_call 8;(with_reducible refine KA.out.mono ?_);rintro e w1 ⟨rfl,hb⟩;have HB1:=Lib.hid hb;have hcv1:=HCV.out w1 hb;have d0:=HC0.out w1 hb;clear hb)
   | (go_at_call 17;(with_reducible refine (KI.out _).mono ?_);rintro e w2 ⟨rfl,rfl⟩)
   | (go_at_call 10;(with_reducible refine (K10a.out _ HB1.out).mono ?_);rintro e w3 ⟨hb,a3,n3,c3,rfl⟩;have HB3:=Lib.hid hb;clear hb)
   | (go_at_call 10;(with_reducible refine (K10b.out w3 HB3.out).mono ?_);rintro e w4 ⟨hb,rfl⟩;have HB4:=Lib.hid hb;clear hb))
  go_ret
  exact ⟨rfl,HB4.out⟩
set_option maxHeartbeats 12800000 in
theorem rows_nx (aoa aob:Option Addr) (na nb ca cb:Nat) (T:ByteArray) (w:World) (e1:¬(1500:Int)<na) (e2:¬(1500:Int)<nb) (hB:No239 w aob nb)
  (KA:Hid (Calls Tryz.prog 8 #[] w fun e w'=>e = .returned (.bool true)∧Below w.heap.size w w'))
  (HCV:Hid (∀ W,Below w.heap.size w W→(convert 22 9 (.slice aoa na ca)).run Tryz.prog W = .ok (.string T) W))
  (KI:Hid (∀ W,Calls Tryz.prog 17 #[.string T,.string ⟨#[13]⟩] W fun e w'=>e = .returned (.bool false)∧w'=W))
  (K10a:Hid (∀ W,Below w.heap.size w W→Calls Tryz.prog 10 #[.slice aoa na ca] W fun e w'=>Below w.heap.size w w'∧∃ a c,e = .returned (.tuple #[.slice a 0 c,.int .i64 0,.int .i64 0])))
  (K10b:Hid (∀ W,Below w.heap.size w W→Calls Tryz.prog 10 #[.slice aob nb cb] W fun e w'=>Below w.heap.size w w'∧∃ a n c,e = .returned (.tuple #[.slice a n c,.int .i64 0,.int .i64 0]))):Calls Tryz.prog 7 #[.slice aoa na ca,.slice aob nb cb] w fun e w'=>e = .returned (.bool true)∧Below w.heap.size w w':=by
 rcases hB with e0 | ⟨g,off,x,rfl,e0,hc0,hx⟩
 ·go_enter Tryz.func7,Tryz.ntmps7
  go_wp2_with (first
   | (go_at_call 8;(with_reducible refine KA.out.mono ?_);rintro e w1 ⟨rfl,hb⟩;have HB1:=Lib.hid hb;have hcv1:=HCV.out w1 hb;clear hb)
   | (go_at_call 17;(with_reducible refine (KI.out _).mono ?_);rintro e w2 ⟨rfl,rfl⟩)
   | (go_at_call 10;(with_reducible refine (K10a.out _ HB1.out).mono ?_);rintro e w3 ⟨hb,a3,c3,rfl⟩;have HB3:=Lib.hid hb;clear hb)
   | (go_at_call 10;(with_reducible refine (K10b.out w3 HB3.out).mono ?_);rintro e w4 ⟨hb,a4,n4,c4,rfl⟩;have HB4:=Lib.hid hb;clear hb))
  go_ret
  exact ⟨rfl,HB4.out⟩
 ·have HC0:=Lib.hid hc0
  have hxb:(x == 239)=false:=beq_eq_false_iff_ne.2 hx
  clear hc0
  go_enter Tryz.func7,Tryz.ntmps7
  go_wp2_with (first
   | (go_at_call 8;(with_reducible refine KA.out.mono ?_);rintro e w1 ⟨rfl,hb⟩;have HB1:=Lib.hid hb;have hcv1:=HCV.out w1 hb;have d0:=HC0.out w1 hb;clear hb)
   | (go_at_call 17;(with_reducible refine (KI.out _).mono ?_);rintro e w2 ⟨rfl,rfl⟩)
   | (go_at_call 10;(with_reducible refine (K10a.out _ HB1.out).mono ?_);rintro e w3 ⟨hb,a3,c3,rfl⟩;have HB3:=Lib.hid hb;clear hb)
   | (go_at_call 10;(with_reducible refine (K10b.out w3 HB3.out).mono ?_);rintro e w4 ⟨hb,a4,n4,c4,rfl⟩;have HB4:=Lib.hid hb;clear hb))
  go_ret
  exact ⟨rfl,HB4.out⟩
set_option maxHeartbeats 12800000 in
theorem rows_ny (aoa aob:Option Addr) (na nb ca cb:Nat) (T:ByteArray) (w:World) (e1:¬(1500:Int)<na) (e2:¬(1500:Int)<nb) (hB:No239 w aob nb) (nx:Nat) (hnx:0<nx)
  (KA:Hid (Calls Tryz.prog 8 #[] w fun e w'=>e = .returned (.bool true)∧Below w.heap.size w w'))
  (HCV:Hid (∀ W,Below w.heap.size w W→(convert 22 9 (.slice aoa na ca)).run Tryz.prog W = .ok (.string T) W))
  (KI:Hid (∀ W,Calls Tryz.prog 17 #[.string T,.string ⟨#[13]⟩] W fun e w'=>e = .returned (.bool false)∧w'=W))
  (K10a:Hid (∀ W,Below w.heap.size w W→Calls Tryz.prog 10 #[.slice aoa na ca] W fun e w'=>Below w.heap.size w w'∧∃ a c,e = .returned (.tuple #[.slice a nx c,.int .i64 0,.int .i64 0])))
  (K10b:Hid (∀ W,Below w.heap.size w W→Calls Tryz.prog 10 #[.slice aob nb cb] W fun e w'=>Below w.heap.size w w'∧∃ a c,e = .returned (.tuple #[.slice a 0 c,.int .i64 0,.int .i64 0]))):Calls Tryz.prog 7 #[.slice aoa na ca,.slice aob nb cb] w fun e w'=>e = .returned (.bool true)∧Below w.heap.size w w':=by
 have hnxb:((nx:Int) == 0)=false:=beq_eq_false_iff_ne.2 (by omega)
 rcases hB with e0 | ⟨g,off,x,rfl,e0,hc0,hx⟩
 ·go_enter Tryz.func7,Tryz.ntmps7
  go_wp2_with (first
   | (go_at_call 8;(with_reducible refine KA.out.mono ?_);rintro e w1 ⟨rfl,hb⟩;have HB1:=Lib.hid hb;have hcv1:=HCV.out w1 hb;clear hb)
   | (go_at_call 17;(with_reducible refine (KI.out _).mono ?_);rintro e w2 ⟨rfl,rfl⟩)
   | (go_at_call 10;(with_reducible refine (K10a.out _ HB1.out).mono ?_);rintro e w3 ⟨hb,a3,c3,rfl⟩;have HB3:=Lib.hid hb;clear hb)
   | (go_at_call 10;(with_reducible refine (K10b.out w3 HB3.out).mono ?_);rintro e w4 ⟨hb,a4,c4,rfl⟩;have HB4:=Lib.hid hb;clear hb))
  go_ret
  exact ⟨rfl,HB4.out⟩
 ·have HC0:=Lib.hid hc0
  have hxb:(x == 239)=false:=beq_eq_false_iff_ne.2 hx
  clear hc0
  go_enter Tryz.func7,Tryz.ntmps7
  go_wp2_with (first
   | (go_at_call 8;(with_reducible refine KA.out.mono ?_);rintro e w1 ⟨rfl,hb⟩;have HB1:=Lib.hid hb;have hcv1:=HCV.out w1 hb;have d0:=HC0.out w1 hb;clear hb)
   | (go_at_call 17;(with_reducible refine (KI.out _).mono ?_);rintro e w2 ⟨rfl,rfl⟩)
   | (go_at_call 10;(with_reducible refine (K10a.out _ HB1.out).mono ?_);rintro e w3 ⟨hb,a3,c3,rfl⟩;have HB3:=Lib.hid hb;clear hb)
   | (go_at_call 10;(with_reducible refine (K10b.out w3 HB3.out).mono ?_);rintro e w4 ⟨hb,a4,c4,rfl⟩;have HB4:=Lib.hid hb;clear hb))
  go_ret
  exact ⟨rfl,HB4.out⟩
set_option maxHeartbeats 12800000 in
theorem rows_k1 (ga offa gb offb na nb ca cb:Nat) (lx ly:Tks0) (nx ny x1:Nat) (T:ByteArray) (yv:Int) (w:World)
  (e1:¬(1500:Int)<na) (e2:¬(1500:Int)<nb) (hnb:(0:Int)<nb) (hyv:yv≠239) (hx1:nx=x1+1) (hny:0<ny) (hnxm:nx≤10000)
  (hk1:(lx.getD 0 tk0).1.k=1)
  (KA:Hid (Calls Tryz.prog 8 #[] w fun e w'=>e = .returned (.bool true)∧Below w.heap.size w w'))
  (HCV:Hid (∀ W,Below w.heap.size w W→(convert 22 9 (.slice (some ⟨ga,offa,none⟩) na ca)).run Tryz.prog W = .ok (.string T) W))
  (KI:Hid (∀ W,Calls Tryz.prog 17 #[.string T,.string ⟨#[13]⟩] W fun e w'=>e = .returned (.bool false)∧w'=W))
  (HB:Hid (∀ W,Below w.heap.size w W→W.cell? ⟨gb,offb,none⟩=some (.int .u8 yv)))
  (K10a:Hid (∀ W,Below w.heap.size w W→Calls Tryz.prog 10 #[.slice (some ⟨ga,offa,none⟩) na ca] W fun e w'=>Below w.heap.size w w'∧Below W.heap.size W w'∧∃ a c,e = .returned (.tuple #[.slice a nx c,.int .i64 0,.int .i64 0])∧TkV w' a nx lx))
  (K10b:Hid (∀ W,Below w.heap.size w W→Calls Tryz.prog 10 #[.slice (some ⟨gb,offb,none⟩) nb cb] W fun e w'=>Below w.heap.size w w'∧Below W.heap.size W w'∧∃ a c,e = .returned (.tuple #[.slice a ny c,.int .i64 0,.int .i64 0])∧TkV w' a ny ly)) :
  Calls Tryz.prog 7 #[.slice (some ⟨ga,offa,none⟩) na ca,.slice (some ⟨gb,offb,none⟩) nb cb] w fun e w'=>e = .returned (.bool true)∧Below w.heap.size w w':=by
 have hyvb:(yv == 239)=false:=beq_eq_false_iff_ne.2 hyv
 have hx1I:(nx:Int)-1=x1:=by omega
 have hnxb:((nx:Int) == 0)=false:=beq_eq_false_iff_ne.2 (by omega)
 have hnyb:((ny:Int) == 0)=false:=beq_eq_false_iff_ne.2 (by omega)
 have hnx0:0<nx:=by omega
 have hx1n:x1<nx:=by omega
 clear hx1
 go_enter Tryz.func7,Tryz.ntmps7
 go_upto_region 7 with (first
  | (go_at_call 8;(with_reducible refine KA.out.mono ?_);rintro e w1 ⟨rfl,hb⟩;have HB1:=Lib.hid hb;have hcv1:=HCV.out w1 hb;have d0:=HB.out w1 hb;clear hb)
  | (go_at_call 17;(with_reducible refine (KI.out _).mono ?_);rintro e w2 ⟨rfl,rfl⟩)
  | (go_at_call 10;(with_reducible refine (K10a.out _ HB1.out).mono ?_);rintro e w3 ⟨hb,_,a3,c3,rfl,ht⟩;have HB3:=Lib.hid hb;have HT3:=Lib.hid ht;clear hb ht)
  | (go_at_call 10;(with_reducible refine (K10b.out w3 HB3.out).mono ?_);rintro e w4 ⟨hb,hb2,a4,c4,rfl,ht⟩;have HB4:=Lib.hid hb;have HB34:=Lib.hid hb2;have HT4:=Lib.hid ht;clear hb hb2 ht))
 obtain ⟨gx,rfl,hcx⟩:=HT3.out.2 hnx0
 obtain ⟨gy,rfl,hcy⟩:=HT4.out.2 hny
 obtain ⟨sa0,sc0,t0⟩:=hcx w4 HB34.out 0 hnx0
 obtain ⟨sa1,sc1,t1⟩:=hcx w4 HB34.out x1 hx1n
 obtain ⟨sa2,sc2,t2⟩:=hcy w4 (Below.refl _ _) 0 hny
 have k0:=t0.k
 have k1:=t1.k
 have k2:=t2.k
 clear hcx hcy HT3 HT4 t0 t1 t2
 generalize (lx.getD 0 tk0).1.k=q0 at *
 generalize (lx.getD x1 tk0).1.k=q1 at *
 generalize (ly.getD 0 tk0).1.k=q2 at *
 rw [Nat.zero_mul] at k0 k2
 have q0b:((q0:Int) == 1)=true:=by rw [hk1];rfl
 go_wp2
 go_ret
 exact ⟨rfl,HB4.out⟩
set_option maxHeartbeats 12800000 in
theorem rows_k2 (ga offa gb offb na nb ca cb:Nat) (lx ly:Tks0) (nx ny x1:Nat) (T:ByteArray) (yv:Int) (w:World)
  (e1:¬(1500:Int)<na) (e2:¬(1500:Int)<nb) (hnb:(0:Int)<nb) (hyv:yv≠239) (hx1:nx=x1+1) (hny:0<ny) (hnxm:nx≤10000)
  (hk1:(lx.getD 0 tk0).1.k≠1) (hk2:(ly.getD 0 tk0).1.k=1)
  (KA:Hid (Calls Tryz.prog 8 #[] w fun e w'=>e = .returned (.bool true)∧Below w.heap.size w w'))
  (HCV:Hid (∀ W,Below w.heap.size w W→(convert 22 9 (.slice (some ⟨ga,offa,none⟩) na ca)).run Tryz.prog W = .ok (.string T) W))
  (KI:Hid (∀ W,Calls Tryz.prog 17 #[.string T,.string ⟨#[13]⟩] W fun e w'=>e = .returned (.bool false)∧w'=W))
  (HB:Hid (∀ W,Below w.heap.size w W→W.cell? ⟨gb,offb,none⟩=some (.int .u8 yv)))
  (K10a:Hid (∀ W,Below w.heap.size w W→Calls Tryz.prog 10 #[.slice (some ⟨ga,offa,none⟩) na ca] W fun e w'=>Below w.heap.size w w'∧Below W.heap.size W w'∧∃ a c,e = .returned (.tuple #[.slice a nx c,.int .i64 0,.int .i64 0])∧TkV w' a nx lx))
  (K10b:Hid (∀ W,Below w.heap.size w W→Calls Tryz.prog 10 #[.slice (some ⟨gb,offb,none⟩) nb cb] W fun e w'=>Below w.heap.size w w'∧Below W.heap.size W w'∧∃ a c,e = .returned (.tuple #[.slice a ny c,.int .i64 0,.int .i64 0])∧TkV w' a ny ly)) :
  Calls Tryz.prog 7 #[.slice (some ⟨ga,offa,none⟩) na ca,.slice (some ⟨gb,offb,none⟩) nb cb] w fun e w'=>e = .returned (.bool true)∧Below w.heap.size w w':=by
 have hyvb:(yv == 239)=false:=beq_eq_false_iff_ne.2 hyv
 have hx1I:(nx:Int)-1=x1:=by omega
 have hnxb:((nx:Int) == 0)=false:=beq_eq_false_iff_ne.2 (by omega)
 have hnyb:((ny:Int) == 0)=false:=beq_eq_false_iff_ne.2 (by omega)
 have hnx0:0<nx:=by omega
 have hx1n:x1<nx:=by omega
 clear hx1
 go_enter Tryz.func7,Tryz.ntmps7
 go_upto_region 7 with (first
  | (go_at_call 8;(with_reducible refine KA.out.mono ?_);rintro e w1 ⟨rfl,hb⟩;have HB1:=Lib.hid hb;have hcv1:=HCV.out w1 hb;have d0:=HB.out w1 hb;clear hb)
  | (go_at_call 17;(with_reducible refine (KI.out _).mono ?_);rintro e w2 ⟨rfl,rfl⟩)
  | (go_at_call 10;(with_reducible refine (K10a.out _ HB1.out).mono ?_);rintro e w3 ⟨hb,_,a3,c3,rfl,ht⟩;have HB3:=Lib.hid hb;have HT3:=Lib.hid ht;clear hb ht)
  | (go_at_call 10;(with_reducible refine (K10b.out w3 HB3.out).mono ?_);rintro e w4 ⟨hb,hb2,a4,c4,rfl,ht⟩;have HB4:=Lib.hid hb;have HB34:=Lib.hid hb2;have HT4:=Lib.hid ht;clear hb hb2 ht))
 obtain ⟨gx,rfl,hcx⟩:=HT3.out.2 hnx0
 obtain ⟨gy,rfl,hcy⟩:=HT4.out.2 hny
 obtain ⟨sa0,sc0,t0⟩:=hcx w4 HB34.out 0 hnx0
 obtain ⟨sa1,sc1,t1⟩:=hcx w4 HB34.out x1 hx1n
 obtain ⟨sa2,sc2,t2⟩:=hcy w4 (Below.refl _ _) 0 hny
 have k0:=t0.k
 have k1:=t1.k
 have k2:=t2.k
 clear hcx hcy HT3 HT4 t0 t1 t2
 generalize (lx.getD 0 tk0).1.k=q0 at *
 generalize (lx.getD x1 tk0).1.k=q1 at *
 generalize (ly.getD 0 tk0).1.k=q2 at *
 rw [Nat.zero_mul] at k0 k2
 have q0b:((q0:Int) == 1)=false:=beq_eq_false_iff_ne.2 (by omega)
 have q2b:((q2:Int) == 1)=true:=by rw [hk2];rfl
 go_wp2
 go_ret
 exact ⟨rfl,HB4.out⟩
set_option maxHeartbeats 12800000 in
theorem rows_k3 (ga offa gb offb na nb ca cb:Nat) (lx ly:Tks0) (nx ny x1:Nat) (T:ByteArray) (yv:Int) (w:World)
  (e1:¬(1500:Int)<na) (e2:¬(1500:Int)<nb) (hnb:(0:Int)<nb) (hyv:yv≠239) (hx1:nx=x1+1) (hny:0<ny) (hnxm:nx≤10000)
  (hk1:(lx.getD 0 tk0).1.k≠1) (hk2:(ly.getD 0 tk0).1.k≠1) (hk3:(lx.getD x1 tk0).1.k=4)
  (KA:Hid (Calls Tryz.prog 8 #[] w fun e w'=>e = .returned (.bool true)∧Below w.heap.size w w'))
  (HCV:Hid (∀ W,Below w.heap.size w W→(convert 22 9 (.slice (some ⟨ga,offa,none⟩) na ca)).run Tryz.prog W = .ok (.string T) W))
  (KI:Hid (∀ W,Calls Tryz.prog 17 #[.string T,.string ⟨#[13]⟩] W fun e w'=>e = .returned (.bool false)∧w'=W))
  (HB:Hid (∀ W,Below w.heap.size w W→W.cell? ⟨gb,offb,none⟩=some (.int .u8 yv)))
  (K10a:Hid (∀ W,Below w.heap.size w W→Calls Tryz.prog 10 #[.slice (some ⟨ga,offa,none⟩) na ca] W fun e w'=>Below w.heap.size w w'∧Below W.heap.size W w'∧∃ a c,e = .returned (.tuple #[.slice a nx c,.int .i64 0,.int .i64 0])∧TkV w' a nx lx))
  (K10b:Hid (∀ W,Below w.heap.size w W→Calls Tryz.prog 10 #[.slice (some ⟨gb,offb,none⟩) nb cb] W fun e w'=>Below w.heap.size w w'∧Below W.heap.size W w'∧∃ a c,e = .returned (.tuple #[.slice a ny c,.int .i64 0,.int .i64 0])∧TkV w' a ny ly)) :
  Calls Tryz.prog 7 #[.slice (some ⟨ga,offa,none⟩) na ca,.slice (some ⟨gb,offb,none⟩) nb cb] w fun e w'=>e = .returned (.bool true)∧Below w.heap.size w w':=by
 have hyvb:(yv == 239)=false:=beq_eq_false_iff_ne.2 hyv
 have hx1I:(nx:Int)-1=x1:=by omega
 have hnxb:((nx:Int) == 0)=false:=beq_eq_false_iff_ne.2 (by omega)
 have hnyb:((ny:Int) == 0)=false:=beq_eq_false_iff_ne.2 (by omega)
 have hnx0:0<nx:=by omega
 have hx1n:x1<nx:=by omega
 clear hx1
 go_enter Tryz.func7,Tryz.ntmps7
 go_upto_region 7 with (first
  | (go_at_call 8;(with_reducible refine KA.out.mono ?_);rintro e w1 ⟨rfl,hb⟩;have HB1:=Lib.hid hb;have hcv1:=HCV.out w1 hb;have d0:=HB.out w1 hb;clear hb)
  | (go_at_call 17;(with_reducible refine (KI.out _).mono ?_);rintro e w2 ⟨rfl,rfl⟩)
  | (go_at_call 10;(with_reducible refine (K10a.out _ HB1.out).mono ?_);rintro e w3 ⟨hb,_,a3,c3,rfl,ht⟩;have HB3:=Lib.hid hb;have HT3:=Lib.hid ht;clear hb ht)
  | (go_at_call 10;(with_reducible refine (K10b.out w3 HB3.out).mono ?_);rintro e w4 ⟨hb,hb2,a4,c4,rfl,ht⟩;have HB4:=Lib.hid hb;have HB34:=Lib.hid hb2;have HT4:=Lib.hid ht;clear hb hb2 ht))
 obtain ⟨gx,rfl,hcx⟩:=HT3.out.2 hnx0
 obtain ⟨gy,rfl,hcy⟩:=HT4.out.2 hny
 obtain ⟨sa0,sc0,t0⟩:=hcx w4 HB34.out 0 hnx0
 obtain ⟨sa1,sc1,t1⟩:=hcx w4 HB34.out x1 hx1n
 obtain ⟨sa2,sc2,t2⟩:=hcy w4 (Below.refl _ _) 0 hny
 have k0:=t0.k
 have k1:=t1.k
 have k2:=t2.k
 clear hcx hcy HT3 HT4 t0 t1 t2
 generalize (lx.getD 0 tk0).1.k=q0 at *
 generalize (lx.getD x1 tk0).1.k=q1 at *
 generalize (ly.getD 0 tk0).1.k=q2 at *
 rw [Nat.zero_mul] at k0 k2
 have q0b:((q0:Int) == 1)=false:=beq_eq_false_iff_ne.2 (by omega)
 have q2b:((q2:Int) == 1)=false:=beq_eq_false_iff_ne.2 (by omega)
 have q1b:((q1:Int) == 4)=true:=by rw [hk3];rfl
 go_wp2
 go_ret
 exact ⟨rfl,HB4.out⟩
set_option maxHeartbeats 12800000 in
theorem rows_k4 (ga offa gb offb na nb ca cb:Nat) (lx ly:Tks0) (nx ny x1:Nat) (T:ByteArray) (yv:Int) (w:World)
  (e1:¬(1500:Int)<na) (e2:¬(1500:Int)<nb) (hnb:(0:Int)<nb) (hyv:yv≠239) (hx1:nx=x1+1) (hny:0<ny) (hnxm:nx≤10000)
  (hk1:(lx.getD 0 tk0).1.k≠1) (hk2:(ly.getD 0 tk0).1.k≠1) (hk3:(lx.getD x1 tk0).1.k≠4) (hna:(0:Int)<na) (HA:Hid (∀ W,Below w.heap.size w W→W.cell? ⟨ga,offa,none⟩=some (.int .u8 239)))
  (KA:Hid (Calls Tryz.prog 8 #[] w fun e w'=>e = .returned (.bool true)∧Below w.heap.size w w'))
  (HCV:Hid (∀ W,Below w.heap.size w W→(convert 22 9 (.slice (some ⟨ga,offa,none⟩) na ca)).run Tryz.prog W = .ok (.string T) W))
  (KI:Hid (∀ W,Calls Tryz.prog 17 #[.string T,.string ⟨#[13]⟩] W fun e w'=>e = .returned (.bool false)∧w'=W))
  (HB:Hid (∀ W,Below w.heap.size w W→W.cell? ⟨gb,offb,none⟩=some (.int .u8 yv)))
  (K10a:Hid (∀ W,Below w.heap.size w W→Calls Tryz.prog 10 #[.slice (some ⟨ga,offa,none⟩) na ca] W fun e w'=>Below w.heap.size w w'∧Below W.heap.size W w'∧∃ a c,e = .returned (.tuple #[.slice a nx c,.int .i64 0,.int .i64 0])∧TkV w' a nx lx))
  (K10b:Hid (∀ W,Below w.heap.size w W→Calls Tryz.prog 10 #[.slice (some ⟨gb,offb,none⟩) nb cb] W fun e w'=>Below w.heap.size w w'∧Below W.heap.size W w'∧∃ a c,e = .returned (.tuple #[.slice a ny c,.int .i64 0,.int .i64 0])∧TkV w' a ny ly)) :
  Calls Tryz.prog 7 #[.slice (some ⟨ga,offa,none⟩) na ca,.slice (some ⟨gb,offb,none⟩) nb cb] w fun e w'=>e = .returned (.bool true)∧Below w.heap.size w w':=by
 have hyvb:(yv == 239)=false:=beq_eq_false_iff_ne.2 hyv
 have hx1I:(nx:Int)-1=x1:=by omega
 have hnxb:((nx:Int) == 0)=false:=beq_eq_false_iff_ne.2 (by omega)
 have hnyb:((ny:Int) == 0)=false:=beq_eq_false_iff_ne.2 (by omega)
 have hnx0:0<nx:=by omega
 have hx1n:x1<nx:=by omega
 clear hx1
 go_enter Tryz.func7,Tryz.ntmps7
 go_upto_region 7 with (first
  | (go_at_call 8;(with_reducible refine KA.out.mono ?_);rintro e w1 ⟨rfl,hb⟩;have HB1:=Lib.hid hb;have hcv1:=HCV.out w1 hb;have d0:=HB.out w1 hb;clear hb)
  | (go_at_call 17;(with_reducible refine (KI.out _).mono ?_);rintro e w2 ⟨rfl,rfl⟩)
  | (go_at_call 10;(with_reducible refine (K10a.out _ HB1.out).mono ?_);rintro e w3 ⟨hb,_,a3,c3,rfl,ht⟩;have HB3:=Lib.hid hb;have HT3:=Lib.hid ht;clear hb ht)
  | (go_at_call 10;(with_reducible refine (K10b.out w3 HB3.out).mono ?_);rintro e w4 ⟨hb,hb2,a4,c4,rfl,ht⟩;have HB4:=Lib.hid hb;have HB34:=Lib.hid hb2;have HT4:=Lib.hid ht;clear hb hb2 ht))
 obtain ⟨gx,rfl,hcx⟩:=HT3.out.2 hnx0
 obtain ⟨gy,rfl,hcy⟩:=HT4.out.2 hny
 obtain ⟨sa0,sc0,t0⟩:=hcx w4 HB34.out 0 hnx0
 obtain ⟨sa1,sc1,t1⟩:=hcx w4 HB34.out x1 hx1n
 obtain ⟨sa2,sc2,t2⟩:=hcy w4 (Below.refl _ _) 0 hny
 have k0:=t0.k
 have k1:=t1.k
 have k2:=t2.k
 clear hcx hcy HT3 HT4 t0 t1 t2
 generalize (lx.getD 0 tk0).1.k=q0 at *
 generalize (lx.getD x1 tk0).1.k=q1 at *
 generalize (ly.getD 0 tk0).1.k=q2 at *
 rw [Nat.zero_mul] at k0 k2
 have q0b:((q0:Int) == 1)=false:=beq_eq_false_iff_ne.2 (by omega)
 have q2b:((q2:Int) == 1)=false:=beq_eq_false_iff_ne.2 (by omega)
 have q1b:((q1:Int) == 4)=false:=beq_eq_false_iff_ne.2 (by omega)
 have da:=HA.out w4 HB4.out
 go_wp2
 go_ret
 exact ⟨rfl,HB4.out⟩
theorem sc_place {b:List Nat} {l:Tks0} (hb:Bs b) (h:scP b = .ok l):∀ i,i<l.length→(l.getD i tk0).2<b.length:=by
 unfold scP at h
 split at h
 ·cases h
 ·have hs:=strip_len b
  have hbs:Bs (stripP b):=by
   unfold stripP;split
   ·exact hb.drop _
   ·exact hb
  have h2:=ts_places _ 0 _ l (Nat.le_refl _) (lin_bs hbs) h
  have h3:=lin_len (stripP b)
  intro i hi
  have:=(h2.2.1 i hi).2
  change (l.getD i tk0).2<0+_ at this
  omega
theorem sc_empty {l:Tks0} (h:scP [] = .ok l):l=[]:=by
 have:scP [] = .ok []:=rfl
 rw [this] at h
 injection h with h;exact h.symm
theorem head_239 {b:List Nat} (h:b.getD 0 0≠239):∀ c∈b.head?,c≠239:=by
 cases b with
 | nil=>intro c hc;cases hc
 | cons x t=>
  intro c hc
  simp at hc h
  omega
theorem head_k {l:Tks0} {k:Nat} (h:(l.getD 0 tk0).1.k≠k):∀ z∈l.head?,z.1.k≠k:=by
 cases l with
 | nil=>intro c hc;cases hc
 | cons x t=>
  intro c hc
  simp at hc
  subst hc
  simpa using h
theorem last_k {l:Tks0} {k:Nat} (h:(l.getD (l.length-1) tk0).1.k≠k):∀ z∈l.getLast?,z.1.k≠k:=by
 intro z hz
 rw [List.getLast?_eq_getElem?] at hz
 have:l.getD (l.length-1) tk0=z:=by
  rw [List.getD_eq_getElem?_getD,hz];rfl
 rw [this] at h
 exact h
set_option maxHeartbeats 3200000 in
theorem rows_all (aoa aob:Option Addr) (ca cb:Nat) (xa xb:List Nat) (w:World) (hT:TT w) (ha:Sl w aoa ca xa) (hb:Sl w aob cb xb) :
  Calls Tryz.prog 7 #[.slice aoa xa.length ca,.slice aob xb.length cb] w fun e w'=>e = .returned (.bool true)∧Below w.heap.size w w':=by
 have KA:=Lib.hid (alive_any w hT)
 by_cases n1:1500<xa.length
 ·exact rows_e1 aoa aob _ _ ca cb w (by omega) KA
 have e1:¬(1500:Int)<xa.length:=by omega
 by_cases n2:1500<xb.length
 ·exact rows_e2 aoa aob _ _ ca cb w e1 (by omega) KA
 have e2:¬(1500:Int)<xb.length:=by omega
 have HCV:=Lib.hid fun (W:World) (hW:Below w.heap.size w W)=>conv_txt (ha.below hW)
 have KI:Hid (∀ W,Calls Tryz.prog 17 #[.string (txt xa),.string ⟨#[13]⟩] W fun e w'=>e = .returned (.bool (ix [13] xa).isSome)∧w'=W):=Lib.hid fun W=>inside_any xa [13] _ _ rfl rfl ha.bs (bs_l _ (by decide)) (by omega) (by decide) (by decide) W
 rcases h13:ix [13] xa with _ | i13
 case some=>
  rw [h13] at KI
  exact rows_e3 aoa aob _ _ ca cb _ w e1 e2 KA HCV KI
 rw [h13] at KI
 have H13:13∉xa:=ix1_none.1 h13
 have hcell:∀ (ao:Option Addr) (c:Nat) (x:List Nat),Sl w ao c x→0<x.length→∃ g off,ao=some ⟨g,off,none⟩∧∀ W,Below w.heap.size w W→W.cell? ⟨g,off,none⟩=some (.int .u8 (x.getD 0 0:Nat)):=fun ao c x hs h0=>by
  rcases hs.src with e | ⟨g,off,e,hc⟩
  ·rw [e] at h0;simp at h0
  ·have c0:=hc 0 h0
   rw [Nat.add_zero] at c0
   exact ⟨g,off,e,fun W hW=>(hW.cell (World.block_lt_of_cell? w _ c0)).trans c0⟩
 by_cases hb239:0<xb.length∧xb.getD 0 0=239
 ·obtain ⟨gb,offb,rfl,hc⟩:=hcell aob cb xb hb hb239.1
  rw [hb239.2] at hc
  exact rows_e4 aoa gb offb _ _ ca cb _ w e1 e2 (by omega) KA HCV KI (Lib.hid hc)
 have hNo:No239 w aob xb.length:=by
  by_cases h0:0<xb.length
  ·obtain ⟨gb,offb,e,hc⟩:=hcell aob cb xb hb h0
   exact .inr ⟨gb,offb,_,e,by omega,hc,fun e=>hb239 ⟨h0,by omega⟩⟩
  ·exact .inl (by omega)
 have SA:=fun (W:World) (hW:Below w.heap.size w W)=>scan_any aoa ca xa W (ha.below hW) (by omega) (hT.grow hW)
 have SB:=fun (W:World) (hW:Below w.heap.size w W)=>scan_any aob cb xb W (hb.below hW) (by omega) (hT.grow hW)
 rcases hsa:scP xa with ⟨pa,ea⟩ | lx
 ·refine rows_ea aoa aob _ _ ca cb _ w e1 e2 hNo pa ea (sc_ez hsa) KA HCV KI (Lib.hid fun W hW=>?_) (Lib.hid fun W hW=>?_)
  ·refine (SA W hW).mono ?_
   rw [hsa]
   rintro e w' ⟨h1,rfl⟩
   exact ⟨hW.trans (h1.mono hW.size),rfl⟩
  ·refine (SB W hW).mono fun e w' h=>?_
   obtain ⟨h1,h2⟩:=h.some
   exact ⟨hW.trans (h1.mono hW.size),h2⟩
 rcases hsb:scP xb with ⟨pb,eb⟩ | ly
 ·refine rows_eb aoa aob _ _ ca cb _ w e1 e2 hNo pb eb (sc_ez hsb) KA HCV KI (Lib.hid fun W hW=>?_) (Lib.hid fun W hW=>?_)
  ·refine (SA W hW).mono ?_
   rw [hsa]
   rintro e w' ⟨h1,a,n,c,m,rfl,_,_⟩
   exact ⟨hW.trans (h1.mono hW.size),a,n,c,rfl⟩
  ·refine (SB W hW).mono ?_
   rw [hsb]
   rintro e w' ⟨h1,rfl⟩
   exact ⟨hW.trans (h1.mono hW.size),rfl⟩
 have KX:∀ W,Below w.heap.size w W→Calls Tryz.prog 10 #[.slice aoa xa.length ca] W fun e w'=>Below w.heap.size w w'∧Below W.heap.size W w'∧∃ a c,e = .returned (.tuple #[.slice a lx.length c,.int .i64 0,.int .i64 0])∧TkV w' a lx.length lx:=fun W hW=>by
  refine (SA W hW).mono ?_
  rw [hsa]
  rintro e w' ⟨h1,a,n,c,m,rfl,h2,h3⟩
  have h4:=h3.tkV h2
  obtain rfl:=h4.1
  exact ⟨hW.trans (h1.mono hW.size),h1,a,c,rfl,h4⟩
 have KY:∀ W,Below w.heap.size w W→Calls Tryz.prog 10 #[.slice aob xb.length cb] W fun e w'=>Below w.heap.size w w'∧Below W.heap.size W w'∧∃ a c,e = .returned (.tuple #[.slice a ly.length c,.int .i64 0,.int .i64 0])∧TkV w' a ly.length ly:=fun W hW=>by
  refine (SB W hW).mono ?_
  rw [hsb]
  rintro e w' ⟨h1,a,n,c,m,rfl,h2,h3⟩
  have h4:=h3.tkV h2
  obtain rfl:=h4.1
  exact ⟨hW.trans (h1.mono hW.size),h1,a,c,rfl,h4⟩
 by_cases hlx:lx=[]
 ·refine rows_nx aoa aob _ _ ca cb _ w e1 e2 hNo KA HCV KI (Lib.hid fun W hW=>?_) (Lib.hid fun W hW=>?_)
  ·refine (KX W hW).mono ?_
   rintro e w' ⟨h1,_,a,c,rfl,_⟩
   exact ⟨h1,a,c,by rw [hlx];rfl⟩
  ·refine (KY W hW).mono ?_
   rintro e w' ⟨h1,_,a,c,rfl,_⟩
   exact ⟨h1,a,_,c,rfl⟩
 have hnx:0<lx.length:=List.length_pos_iff.2 hlx
 by_cases hly:ly=[]
 ·refine rows_ny aoa aob _ _ ca cb _ w e1 e2 hNo lx.length hnx KA HCV KI (Lib.hid fun W hW=>?_) (Lib.hid fun W hW=>?_)
  ·refine (KX W hW).mono ?_
   rintro e w' ⟨h1,_,a,c,rfl,_⟩
   exact ⟨h1,a,c,rfl⟩
  ·refine (KY W hW).mono ?_
   rintro e w' ⟨h1,_,a,c,rfl,_⟩
   exact ⟨h1,a,c,by rw [hly];rfl⟩
 have hny:0<ly.length:=List.length_pos_iff.2 hly
 have hxa:0<xa.length:=by
  rcases Nat.eq_zero_or_pos xa.length with e | e
  ·have:xa=[]:=List.eq_nil_of_length_eq_zero e
   subst this
   exact absurd (sc_empty hsa) hlx
  ·exact e
 have hxb:0<xb.length:=by
  rcases Nat.eq_zero_or_pos xb.length with e | e
  ·have:xb=[]:=List.eq_nil_of_length_eq_zero e
   subst this
   exact absurd (sc_empty hsb) hly
  ·exact e
 have hyv:xb.getD 0 0≠239:=fun e=>hb239 ⟨hxb,e⟩
 have hlen1:=sc_len ha.bs hsa
 have hlen2:=sc_len hb.bs hsb
 obtain ⟨ga,offa,rfl,hca⟩:=hcell aoa ca xa ha hxa
 obtain ⟨gb,offb,rfl,hcb⟩:=hcell aob cb xb hb hxb
 have hx1:lx.length=(lx.length-1)+1:=by omega
 by_cases hk1:(lx.getD 0 tk0).1.k=1
 ·exact rows_k1 ga offa gb offb _ _ ca cb lx ly _ _ _ _ _ w e1 e2 (by omega) (fun e=>hyv (by omega)) hx1 hny (by omega) hk1 KA HCV KI (Lib.hid hcb) (Lib.hid KX) (Lib.hid KY)
 by_cases hk2:(ly.getD 0 tk0).1.k=1
 ·exact rows_k2 ga offa gb offb _ _ ca cb lx ly _ _ _ _ _ w e1 e2 (by omega) (fun e=>hyv (by omega)) hx1 hny (by omega) hk1 hk2 KA HCV KI (Lib.hid hcb) (Lib.hid KX) (Lib.hid KY)
 by_cases hk3:(lx.getD (lx.length-1) tk0).1.k=4
 ·exact rows_k3 ga offa gb offb _ _ ca cb lx ly _ _ _ _ _ w e1 e2 (by omega) (fun e=>hyv (by omega)) hx1 hny (by omega) hk1 hk2 hk3 KA HCV KI (Lib.hid hcb) (Lib.hid KX) (Lib.hid KY)
 by_cases ha239:xa.getD 0 0=239
 ·have hca2:=hca
  rw [ha239] at hca2
  exact rows_k4 ga offa gb offb _ _ ca cb lx ly _ _ _ _ _ w e1 e2 (by omega) (fun e=>hyv (by omega)) hx1 hny (by omega) hk1 hk2 hk3 (by omega) (Lib.hid hca2) KA HCV KI (Lib.hid hcb) (Lib.hid KX) (Lib.hid KY)
 have hrp:=rows_plain ha.bs H13 (head_239 ha239) (head_239 hyv) hsa hsb hlx (head_k hk2) (last_k hk3) (lin_bs hb.bs)
 refine rows_core ga offa gb offb _ _ ca cb xa xb lx ly (lx++sh xa.length ly) _ _ (lx.length+ly.length) (lx.length-1) _ _ _ w e1 e2 (by omega) (by omega) (fun e=>ha239 (by omega)) (fun e=>hyv (by omega)) hx1 hny rfl (by omega) KA HCV KI (Lib.hid hca) (Lib.hid hcb) (Lib.hid KX) (Lib.hid KY) (Lib.hid fun W hW=>?_) (Lib.hid fun W hW=>(hb.below hW).cells) rfl (Lib.hid fun W hW B a c ho=>?_) (Lib.hid ⟨rfl,rfl,rfl⟩)
  (Lib.hid fun i hi=>by have:=sc_place ha.bs hsa i hi;omega) (Lib.hid fun i hi=>by have:=sc_place hb.bs hsb i hi;omega) hk1 hk2 hk3
 ·refine (copy_any _ ca xa W (ha.below hW) (by omega)).mono ?_
  rintro e w' ⟨a,c,rfl,h1,h2⟩
  exact ⟨hW.trans (h2.mono hW.size),h2,a,c,rfl,h1⟩
 ·rw [u8s_app] at ho
  have hl:(xa++xb).length=xa.length+xb.length:=List.length_append
  rw [←hl] at ho ⊢
  have hs:=own_sl ho (ha.bs.app hb.bs)
  refine (scan_any a c (xa++xb) W hs (by rw [hl];omega) (hT.grow hW)).mono ?_
  rw [hrp]
  rintro e w' ⟨h1,a,n,c,m,rfl,h2,h3⟩
  have h4:=h3.tkV h2
  have hll:(lx++sh xa.length ly).length=lx.length+ly.length:=by unfold sh;rw [List.length_append,List.length_map]
  have hn:=h4.1
  rw [hll] at hn
  subst hn
  exact ⟨hW.trans (h1.mono hW.size),h1,a,c,rfl,h4⟩
end
end Go.Proofs.YtbogfailbgbdoaaGreatDoor.K
