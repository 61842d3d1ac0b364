/- Part 7. -/
import Derived.Test.YtacpfpghokcdlaaGreatDoorXA6
namespace Go.Proofs.YtacpfpghokcdlaaGreatDoor.Z
set_option maxRecDepth 100000
section
open Go.RowKit
abbrev q1:Oper:={ dst:=some 12,op:=Op.call { callee:=Callee.value (Operand.func 174),args := #[Operand.const (Value.int IntKind.i64 0),Operand.const (Value.int IntKind.i64 18)],argTypes := #[3,3] },type:=52,pos := "lens.go:97",after := #[],guard:=none }
abbrev q2:Oper:={ dst:=some 15,op:=Op.call { callee:=Callee.value (Operand.tmp 12),args := #[Operand.tmp 14],argTypes := #[3] },type:=4,pos := "lens.go:97",after := #[{ on:=0,ground:=Ground.data },{ on:=2,ground:=Ground.data },{ on:=0,ground:=Ground.chain }],guard:=none }
abbrev q3:Oper:={ dst:=some 20,op:=Op.call { callee:=Callee.value (Operand.func 174),args := #[Operand.const (Value.int IntKind.i64 0),Operand.tmp 19],argTypes := #[3,3] },type:=52,pos := "lens.go:97",after := #[{ on:=7,ground:=Ground.data },{ on:=4,ground:=Ground.chain },{ on:=4,ground:=Ground.guard }],guard:=some (4,false) }
abbrev q4:Oper:={ dst:=some 23,op:=Op.call { callee:=Callee.value (Operand.tmp 20),args := #[Operand.tmp 22],argTypes := #[3] },type:=4,pos := "lens.go:97",after := #[{ on:=8,ground:=Ground.data },{ on:=10,ground:=Ground.data },{ on:=8,ground:=Ground.chain },{ on:=4,ground:=Ground.guard }],guard:=some (4,false) }
def Wrote (w:World) (b:Bool) (e:Ending) (w':World):Prop:=e = .returned (.bool b)∧Below w.heap.size w w'
set_option maxHeartbeats 4000000 in
set_option maxRecDepth 100000 in
theorem wr_a (g n c l m d:Nat) (ao:Option Addr) (s x u y:Int) (w:World) (hg:w.cell? ⟨g,0,none⟩=some (.slice ao n c)) (hl:spl s=l) (hm:spm s=m) (_e1:IntKind.i64.wrap ((m:Int)-l)=d)
  (_e2:IntKind.i64.wrap ((l:Int)+x)=u) (_e3:IntKind.i64.wrap ((320:Int)-n)=y) (h1:Bad 0 18 s) :
  Calls Tryz.prog 183 #[.agg #[.int .i64 s,.int .i64 x],.pointer (some ⟨g,0,none⟩)] w (Wrote w true):=by
 have HGL:=Lib.hid (World.block_lt_of_cell? w _ hg)
 have HG:=Lib.hid hg
 have HSP:=Lib.hid (And.intro hl hm)
 have H1:=Lib.hid h1
 clear h1
 clear hl hm hg
 obtain ⟨B,hB⟩:∃ B,B=w.heap.size:=⟨_,rfl⟩
 have HC:Hid (∀ W,Below (B+1) (w.alloc (.cells #[.int .i64 s,.int .i64 x] 187)) W→W.cell? ⟨B,0,none⟩=some (.int .i64 s)∧W.cell? ⟨B,1,none⟩=some (.int .i64 x)∧W.cell? ⟨g,0,none⟩=some (.slice ao n c)):=Lib.hid fun W hb=>by
  subst hB
  refine ⟨(hb.cell (p:=⟨_,0,none⟩) (Nat.lt_succ_self _)).trans ?_,(hb.cell (p:=⟨_,1,none⟩) (Nat.lt_succ_self _)).trans ?_,(hb.cell (p:=⟨g,0,none⟩) (Nat.lt_succ_of_lt HGL.out)).trans ?_⟩
  ·simp
  ·simp
  ·have h1:g≠w.heap.size:=Nat.ne_of_lt HGL.out
   have h2:=HG.out
   simp [World.cell?_alloc_old,h1,h2]
 have HB0:Hid (Below (B+1) (w.alloc (.cells #[.int .i64 s,.int .i64 x] 187)) (w.alloc (.cells #[.int .i64 s,.int .i64 x] 187)).drew):=Lib.hid (by
  subst hB
  have h:=(Below.refl (w.alloc (.cells #[.int .i64 s,.int .i64 x] 187)).heap.size (w.alloc (.cells #[.int .i64 s,.int .i64 x] 187))).drew
  simpa using h)
 have HF:Hid (∀ W,Below (B+1) (w.alloc (.cells #[.int .i64 s,.int .i64 x] 187)) W→Below w.heap.size w W):=Lib.hid fun W hb=>by
  subst hB
  exact ((Below.refl _ w).alloc (Nat.le_refl _) _).trans (hb.mono (Nat.le_succ _))
 have HSZ:Hid (B+1≤(w.alloc (.cells #[.int .i64 s,.int .i64 x] 187)).heap.size):=Lib.hid (by subst hB;simp)
 go_enter Tryz.func183,Tryz.ntmps183
 go_upto_region 2 with (go_at_call 181;refine (span_any _ _).mono ?_;rintro e w5 ⟨rfl,rfl⟩;rw [HSP.out.1,HSP.out.2])
 rw [←hB]
 clear hB
 generalize (w.alloc (.cells #[.int .i64 s,.int .i64 x] 187))=w3 at *
 refine wp_region_held_drew (S:=fun W=>W.cell? ⟨B,0,none⟩=some (.int .i64 s)∧W.cell? ⟨B,1,none⟩=some (.int .i64 x)∧W.cell? ⟨g,0,none⟩=some (.slice ao n c)) (by kernel_rfl) (HC.out _ HB0.out) (fun hHeld=>?_)
 refine tA 1 (.pointer (some ⟨B,0,none⟩)) hHeld ?_
 dsimp only [List.set]
 refine tA 2 (.int .i64 s) hHeld ?_
 dsimp only [List.set]
 refine wpAnyH_ready (rs:=[0]) (by kernel_rfl) (by simp) ?_
 refine AllReadyH.cons (o:=q1) rfl (fun K hK=>?_) AllReadyH.nil
 refine step_call (by rfl) _ _ (run_call2 (.func 174) (.const (.int .i64 0)) (.const (.int .i64 18)) _ 174 #[] (.int .i64 0) (.int .i64 18) (fun _=>enter21 _ _) rfl rfl rfl rfl) (fun v W=>∃ p q,v=fnOut p q∧Kept W p q 0 18∧Below (B+1) w3 W) ?_ ?_
 ·refine (outside_any 0 18 _).mono ?_
  rintro e w1 ⟨p,q,rfl,hk,hb,hp,hq⟩
  exact ⟨_,rfl,p,q,rfl,hk,HB0.out.trans (hb.mono (Nat.le_trans HSZ.out HB0.out.size))⟩
 rintro v1 w1 ⟨p1,q1,rfl,hk,hb⟩
 have HK1:=Lib.hid hk
 have HB1:=Lib.hid hb
 clear hk hb
 refine hK.out _ _ (HC.out _ HB1.out) (fun hHeld=>?_)
 clear hK K
 try simp only [Act.put,List.setIfInBounds_toArray,List.set_cons_zero,List.set_cons_succ]
 refine wpAnyH_ready (rs:=[3]) (by kernel_rfl) (by simp) ?_
 refine AllReadyH.cons (o:=q2) rfl (fun K hK=>?_) AllReadyH.nil
 refine step_call (by rfl) _ _ (run_call1 (.tmp 12) (.tmp 14) _ 185 #[.pointer (some ⟨p1,0,none⟩),.pointer (some ⟨q1,0,none⟩)] (.int .i64 s) (fun _=>enter35 _ _) rfl rfl rfl) (fun v W=>v = .bool true∧W=w1) ?_ ?_
 ·refine (bad_yes p1 q1 0 18 s _ HK1.out H1.out).mono ?_
  rintro e W ⟨rfl,rfl⟩
  exact ⟨_,rfl,rfl,rfl⟩
 rintro v W ⟨rfl,rfl⟩
 refine hK.out _ _ (HC.out _ HB1.out) (fun hHeld=>?_)
 clear hK K
 try simp only [Act.put,List.setIfInBounds_toArray,List.set_cons_zero,List.set_cons_succ]
 refine tA 4 (.bool true) hHeld ?_
 dsimp only [List.set]
 refine tB 5 hHeld ?_
 refine tB 6 hHeld ?_
 refine tB 7 hHeld ?_
 refine tB 8 hHeld ?_
 refine tB 9 hHeld ?_
 refine tB 10 hHeld ?_
 refine tB 11 hHeld ?_
 refine tA 12 (.bool true) hHeld ?_
 dsimp only [List.set]
 refine tA 13 (.bool true) hHeld ?_
 dsimp only [List.set]
 refine tB 14 hHeld ?_
 refine tB 15 hHeld ?_
 refine tB 16 hHeld ?_
 refine tB 17 hHeld ?_
 refine tB 18 hHeld ?_
 refine tB 19 hHeld ?_
 refine tB 20 hHeld ?_
 refine tB 21 hHeld ?_
 refine tA 22 (.bool true) hHeld ?_
 dsimp only [List.set]
 refine tA 23 (.bool true) hHeld ?_
 dsimp only [List.set]
 refine tB 24 hHeld ?_
 refine tB 25 hHeld ?_
 refine tB 26 hHeld ?_
 refine tB 27 hHeld ?_
 refine tB 28 hHeld ?_
 refine tB 29 hHeld ?_
 refine tB 30 hHeld ?_
 refine tB 31 hHeld ?_
 refine tA 32 (.bool true) hHeld ?_
 dsimp only [List.set]
 refine tA 33 (.bool true) hHeld ?_
 dsimp only [List.set]
 refine wpAnyH_done (by kernel_rfl) ?_ _
 clear hHeld
 go_wp2
 go_ret
 exact ⟨rfl,HF.out _ HB1.out⟩
set_option maxHeartbeats 4000000 in
set_option maxRecDepth 100000 in
theorem wr_b (g n c l m d:Nat) (ao:Option Addr) (s x u y:Int) (w:World) (hg:w.cell? ⟨g,0,none⟩=some (.slice ao n c)) (hl:spl s=l) (hm:spm s=m) (_e1:IntKind.i64.wrap ((m:Int)-l)=d)
  (_e2:IntKind.i64.wrap ((l:Int)+x)=u) (_e3:IntKind.i64.wrap ((320:Int)-n)=y) (h1:¬Bad 0 18 s) (h2:Bad 0 d x) :
  Calls Tryz.prog 183 #[.agg #[.int .i64 s,.int .i64 x],.pointer (some ⟨g,0,none⟩)] w (Wrote w true):=by
 have HGL:=Lib.hid (World.block_lt_of_cell? w _ hg)
 have HG:=Lib.hid hg
 have HSP:=Lib.hid (And.intro hl hm)
 have H1:=Lib.hid h1
 have H2:=Lib.hid h2
 clear h1 h2
 clear hl hm hg
 obtain ⟨B,hB⟩:∃ B,B=w.heap.size:=⟨_,rfl⟩
 have HC:Hid (∀ W,Below (B+1) (w.alloc (.cells #[.int .i64 s,.int .i64 x] 187)) W→W.cell? ⟨B,0,none⟩=some (.int .i64 s)∧W.cell? ⟨B,1,none⟩=some (.int .i64 x)∧W.cell? ⟨g,0,none⟩=some (.slice ao n c)):=Lib.hid fun W hb=>by
  subst hB
  refine ⟨(hb.cell (p:=⟨_,0,none⟩) (Nat.lt_succ_self _)).trans ?_,(hb.cell (p:=⟨_,1,none⟩) (Nat.lt_succ_self _)).trans ?_,(hb.cell (p:=⟨g,0,none⟩) (Nat.lt_succ_of_lt HGL.out)).trans ?_⟩
  ·simp
  ·simp
  ·have h1:g≠w.heap.size:=Nat.ne_of_lt HGL.out
   have h2:=HG.out
   simp [World.cell?_alloc_old,h1,h2]
 have HB0:Hid (Below (B+1) (w.alloc (.cells #[.int .i64 s,.int .i64 x] 187)) (w.alloc (.cells #[.int .i64 s,.int .i64 x] 187)).drew):=Lib.hid (by
  subst hB
  have h:=(Below.refl (w.alloc (.cells #[.int .i64 s,.int .i64 x] 187)).heap.size (w.alloc (.cells #[.int .i64 s,.int .i64 x] 187))).drew
  simpa using h)
 have HF:Hid (∀ W,Below (B+1) (w.alloc (.cells #[.int .i64 s,.int .i64 x] 187)) W→Below w.heap.size w W):=Lib.hid fun W hb=>by
  subst hB
  exact ((Below.refl _ w).alloc (Nat.le_refl _) _).trans (hb.mono (Nat.le_succ _))
 have HSZ:Hid (B+1≤(w.alloc (.cells #[.int .i64 s,.int .i64 x] 187)).heap.size):=Lib.hid (by subst hB;simp)
 go_enter Tryz.func183,Tryz.ntmps183
 go_upto_region 2 with (go_at_call 181;refine (span_any _ _).mono ?_;rintro e w5 ⟨rfl,rfl⟩;rw [HSP.out.1,HSP.out.2])
 rw [←hB]
 clear hB
 generalize (w.alloc (.cells #[.int .i64 s,.int .i64 x] 187))=w3 at *
 refine wp_region_held_drew (S:=fun W=>W.cell? ⟨B,0,none⟩=some (.int .i64 s)∧W.cell? ⟨B,1,none⟩=some (.int .i64 x)∧W.cell? ⟨g,0,none⟩=some (.slice ao n c)) (by kernel_rfl) (HC.out _ HB0.out) (fun hHeld=>?_)
 refine tA 1 (.pointer (some ⟨B,0,none⟩)) hHeld ?_
 dsimp only [List.set]
 refine tA 2 (.int .i64 s) hHeld ?_
 dsimp only [List.set]
 refine wpAnyH_ready (rs:=[0]) (by kernel_rfl) (by simp) ?_
 refine AllReadyH.cons (o:=q1) rfl (fun K hK=>?_) AllReadyH.nil
 refine step_call (by rfl) _ _ (run_call2 (.func 174) (.const (.int .i64 0)) (.const (.int .i64 18)) _ 174 #[] (.int .i64 0) (.int .i64 18) (fun _=>enter21 _ _) rfl rfl rfl rfl) (fun v W=>∃ p q,v=fnOut p q∧Kept W p q 0 18∧Below (B+1) w3 W) ?_ ?_
 ·refine (outside_any 0 18 _).mono ?_
  rintro e w1 ⟨p,q,rfl,hk,hb,hp,hq⟩
  exact ⟨_,rfl,p,q,rfl,hk,HB0.out.trans (hb.mono (Nat.le_trans HSZ.out HB0.out.size))⟩
 rintro v1 w1 ⟨p1,q1,rfl,hk,hb⟩
 have HK1:=Lib.hid hk
 have HB1:=Lib.hid hb
 clear hk hb
 refine hK.out _ _ (HC.out _ HB1.out) (fun hHeld=>?_)
 clear hK K
 try simp only [Act.put,List.setIfInBounds_toArray,List.set_cons_zero,List.set_cons_succ]
 refine wpAnyH_ready (rs:=[3]) (by kernel_rfl) (by simp) ?_
 refine AllReadyH.cons (o:=q2) rfl (fun K hK=>?_) AllReadyH.nil
 refine step_call (by rfl) _ _ (run_call1 (.tmp 12) (.tmp 14) _ 185 #[.pointer (some ⟨p1,0,none⟩),.pointer (some ⟨q1,0,none⟩)] (.int .i64 s) (fun _=>enter35 _ _) rfl rfl rfl) (fun v W=>v = .bool false∧W=w1) ?_ ?_
 ·refine (bad_no p1 q1 0 18 s _ HK1.out H1.out).mono ?_
  rintro e W ⟨rfl,rfl⟩
  exact ⟨_,rfl,rfl,rfl⟩
 rintro v W ⟨rfl,rfl⟩
 refine hK.out _ _ (HC.out _ HB1.out) (fun hHeld=>?_)
 clear hK K
 try simp only [Act.put,List.setIfInBounds_toArray,List.set_cons_zero,List.set_cons_succ]
 refine tA 4 (.bool false) hHeld ?_
 dsimp only [List.set]
 refine tA 5 (.int .i64 m) hHeld ?_
 dsimp only [List.set]
 refine tA 6 (.int .i64 l) hHeld ?_
 dsimp only [List.set]
 refine tA 7 (.int .i64 d) hHeld ?_
 dsimp only [List.set]
 refine tA 9 (.pointer (some ⟨B,1,none⟩)) hHeld ?_
 dsimp only [List.set]
 refine tA 10 (.int .i64 x) hHeld ?_
 dsimp only [List.set]
 refine wpAnyH_ready (rs:=[8]) (by kernel_rfl) (by simp) ?_
 refine AllReadyH.cons (o:=q3) rfl (fun K hK=>?_) AllReadyH.nil
 refine step_call (by rfl) _ _ (run_call2 (.func 174) (.const (.int .i64 0)) (.tmp 19) _ 174 #[] (.int .i64 0) (.int .i64 d) (fun _=>enter21 _ _) rfl rfl rfl rfl) (fun v W=>∃ p q,v=fnOut p q∧Kept W p q 0 d∧Below (B+1) w3 W) ?_ ?_
 ·refine (outside_any 0 d _).mono ?_
  rintro e w2 ⟨p,q,rfl,hk,hb,hp,hq⟩
  exact ⟨_,rfl,p,q,rfl,hk,HB1.out.trans (hb.mono (Nat.le_trans HSZ.out HB1.out.size))⟩
 rintro v2 w2 ⟨p2,q2,rfl,hk,hb⟩
 have HK2:=Lib.hid hk
 have HB2:=Lib.hid hb
 clear hk hb
 refine hK.out _ _ (HC.out _ HB2.out) (fun hHeld=>?_)
 clear hK K
 try simp only [Act.put,List.setIfInBounds_toArray,List.set_cons_zero,List.set_cons_succ]
 refine wpAnyH_ready (rs:=[11]) (by kernel_rfl) (by simp) ?_
 refine AllReadyH.cons (o:=q4) rfl (fun K hK=>?_) AllReadyH.nil
 refine step_call (by rfl) _ _ (run_call1 (.tmp 20) (.tmp 22) _ 185 #[.pointer (some ⟨p2,0,none⟩),.pointer (some ⟨q2,0,none⟩)] (.int .i64 x) (fun _=>enter35 _ _) rfl rfl rfl) (fun v W=>v = .bool true∧W=w2) ?_ ?_
 ·refine (bad_yes p2 q2 0 d x _ HK2.out H2.out).mono ?_
  rintro e W ⟨rfl,rfl⟩
  exact ⟨_,rfl,rfl,rfl⟩
 rintro v W ⟨rfl,rfl⟩
 refine hK.out _ _ (HC.out _ HB2.out) (fun hHeld=>?_)
 clear hK K
 try simp only [Act.put,List.setIfInBounds_toArray,List.set_cons_zero,List.set_cons_succ]
 refine tA 12 (.bool true) hHeld ?_
 dsimp only [List.set]
 refine tA 13 (.bool true) hHeld ?_
 dsimp only [List.set]
 refine tB 14 hHeld ?_
 refine tB 15 hHeld ?_
 refine tB 16 hHeld ?_
 refine tB 17 hHeld ?_
 refine tB 18 hHeld ?_
 refine tB 19 hHeld ?_
 refine tB 20 hHeld ?_
 refine tB 21 hHeld ?_
 refine tA 22 (.bool true) hHeld ?_
 dsimp only [List.set]
 refine tA 23 (.bool true) hHeld ?_
 dsimp only [List.set]
 refine tB 24 hHeld ?_
 refine tB 25 hHeld ?_
 refine tB 26 hHeld ?_
 refine tB 27 hHeld ?_
 refine tB 28 hHeld ?_
 refine tB 29 hHeld ?_
 refine tB 30 hHeld ?_
 refine tB 31 hHeld ?_
 refine tA 32 (.bool true) hHeld ?_
 dsimp only [List.set]
 refine tA 33 (.bool true) hHeld ?_
 dsimp only [List.set]
 refine wpAnyH_done (by kernel_rfl) ?_ _
 clear hHeld
 go_wp2
 go_ret
 exact ⟨rfl,HF.out _ HB2.out⟩
set_option maxHeartbeats 4000000 in
set_option maxRecDepth 100000 in
theorem wr_c (g n c l m d:Nat) (ao:Option Addr) (s x u y:Int) (w:World) (hg:w.cell? ⟨g,0,none⟩=some (.slice ao n c)) (hl:spl s=l) (hm:spm s=m) (_e1:IntKind.i64.wrap ((m:Int)-l)=d)
  (_e2:IntKind.i64.wrap ((l:Int)+x)=u) (_e3:IntKind.i64.wrap ((320:Int)-n)=y) (h1:¬Bad 0 18 s) (h2:¬Bad 0 d x) (h3:(s == 16)=true) (h4:((n:Int) == 0)=true) :
  Calls Tryz.prog 183 #[.agg #[.int .i64 s,.int .i64 x],.pointer (some ⟨g,0,none⟩)] w (Wrote w true):=by
 have HGL:=Lib.hid (World.block_lt_of_cell? w _ hg)
 have HG:=Lib.hid hg
 have HSP:=Lib.hid (And.intro hl hm)
 have H1:=Lib.hid h1
 have H2:=Lib.hid h2
 clear h1 h2
 clear hl hm hg
 obtain ⟨B,hB⟩:∃ B,B=w.heap.size:=⟨_,rfl⟩
 have HC:Hid (∀ W,Below (B+1) (w.alloc (.cells #[.int .i64 s,.int .i64 x] 187)) W→W.cell? ⟨B,0,none⟩=some (.int .i64 s)∧W.cell? ⟨B,1,none⟩=some (.int .i64 x)∧W.cell? ⟨g,0,none⟩=some (.slice ao n c)):=Lib.hid fun W hb=>by
  subst hB
  refine ⟨(hb.cell (p:=⟨_,0,none⟩) (Nat.lt_succ_self _)).trans ?_,(hb.cell (p:=⟨_,1,none⟩) (Nat.lt_succ_self _)).trans ?_,(hb.cell (p:=⟨g,0,none⟩) (Nat.lt_succ_of_lt HGL.out)).trans ?_⟩
  ·simp
  ·simp
  ·have h1:g≠w.heap.size:=Nat.ne_of_lt HGL.out
   have h2:=HG.out
   simp [World.cell?_alloc_old,h1,h2]
 have HB0:Hid (Below (B+1) (w.alloc (.cells #[.int .i64 s,.int .i64 x] 187)) (w.alloc (.cells #[.int .i64 s,.int .i64 x] 187)).drew):=Lib.hid (by
  subst hB
  have h:=(Below.refl (w.alloc (.cells #[.int .i64 s,.int .i64 x] 187)).heap.size (w.alloc (.cells #[.int .i64 s,.int .i64 x] 187))).drew
  simpa using h)
 have HF:Hid (∀ W,Below (B+1) (w.alloc (.cells #[.int .i64 s,.int .i64 x] 187)) W→Below w.heap.size w W):=Lib.hid fun W hb=>by
  subst hB
  exact ((Below.refl _ w).alloc (Nat.le_refl _) _).trans (hb.mono (Nat.le_succ _))
 have HSZ:Hid (B+1≤(w.alloc (.cells #[.int .i64 s,.int .i64 x] 187)).heap.size):=Lib.hid (by subst hB;simp)
 go_enter Tryz.func183,Tryz.ntmps183
 go_upto_region 2 with (go_at_call 181;refine (span_any _ _).mono ?_;rintro e w5 ⟨rfl,rfl⟩;rw [HSP.out.1,HSP.out.2])
 rw [←hB]
 clear hB
 generalize (w.alloc (.cells #[.int .i64 s,.int .i64 x] 187))=w3 at *
 refine wp_region_held_drew (S:=fun W=>W.cell? ⟨B,0,none⟩=some (.int .i64 s)∧W.cell? ⟨B,1,none⟩=some (.int .i64 x)∧W.cell? ⟨g,0,none⟩=some (.slice ao n c)) (by kernel_rfl) (HC.out _ HB0.out) (fun hHeld=>?_)
 refine tA 1 (.pointer (some ⟨B,0,none⟩)) hHeld ?_
 dsimp only [List.set]
 refine tA 2 (.int .i64 s) hHeld ?_
 dsimp only [List.set]
 refine wpAnyH_ready (rs:=[0]) (by kernel_rfl) (by simp) ?_
 refine AllReadyH.cons (o:=q1) rfl (fun K hK=>?_) AllReadyH.nil
 refine step_call (by rfl) _ _ (run_call2 (.func 174) (.const (.int .i64 0)) (.const (.int .i64 18)) _ 174 #[] (.int .i64 0) (.int .i64 18) (fun _=>enter21 _ _) rfl rfl rfl rfl) (fun v W=>∃ p q,v=fnOut p q∧Kept W p q 0 18∧Below (B+1) w3 W) ?_ ?_
 ·refine (outside_any 0 18 _).mono ?_
  rintro e w1 ⟨p,q,rfl,hk,hb,hp,hq⟩
  exact ⟨_,rfl,p,q,rfl,hk,HB0.out.trans (hb.mono (Nat.le_trans HSZ.out HB0.out.size))⟩
 rintro v1 w1 ⟨p1,q1,rfl,hk,hb⟩
 have HK1:=Lib.hid hk
 have HB1:=Lib.hid hb
 clear hk hb
 refine hK.out _ _ (HC.out _ HB1.out) (fun hHeld=>?_)
 clear hK K
 try simp only [Act.put,List.setIfInBounds_toArray,List.set_cons_zero,List.set_cons_succ]
 refine wpAnyH_ready (rs:=[3]) (by kernel_rfl) (by simp) ?_
 refine AllReadyH.cons (o:=q2) rfl (fun K hK=>?_) AllReadyH.nil
 refine step_call (by rfl) _ _ (run_call1 (.tmp 12) (.tmp 14) _ 185 #[.pointer (some ⟨p1,0,none⟩),.pointer (some ⟨q1,0,none⟩)] (.int .i64 s) (fun _=>enter35 _ _) rfl rfl rfl) (fun v W=>v = .bool false∧W=w1) ?_ ?_
 ·refine (bad_no p1 q1 0 18 s _ HK1.out H1.out).mono ?_
  rintro e W ⟨rfl,rfl⟩
  exact ⟨_,rfl,rfl,rfl⟩
 rintro v W ⟨rfl,rfl⟩
 refine hK.out _ _ (HC.out _ HB1.out) (fun hHeld=>?_)
 clear hK K
 try simp only [Act.put,List.setIfInBounds_toArray,List.set_cons_zero,List.set_cons_succ]
 refine tA 4 (.bool false) hHeld ?_
 dsimp only [List.set]
 refine tA 5 (.int .i64 m) hHeld ?_
 dsimp only [List.set]
 refine tA 6 (.int .i64 l) hHeld ?_
 dsimp only [List.set]
 refine tA 7 (.int .i64 d) hHeld ?_
 dsimp only [List.set]
 refine tA 9 (.pointer (some ⟨B,1,none⟩)) hHeld ?_
 dsimp only [List.set]
 refine tA 10 (.int .i64 x) hHeld ?_
 dsimp only [List.set]
 refine wpAnyH_ready (rs:=[8]) (by kernel_rfl) (by simp) ?_
 refine AllReadyH.cons (o:=q3) rfl (fun K hK=>?_) AllReadyH.nil
 refine step_call (by rfl) _ _ (run_call2 (.func 174) (.const (.int .i64 0)) (.tmp 19) _ 174 #[] (.int .i64 0) (.int .i64 d) (fun _=>enter21 _ _) rfl rfl rfl rfl) (fun v W=>∃ p q,v=fnOut p q∧Kept W p q 0 d∧Below (B+1) w3 W) ?_ ?_
 ·refine (outside_any 0 d _).mono ?_
  rintro e w2 ⟨p,q,rfl,hk,hb,hp,hq⟩
  exact ⟨_,rfl,p,q,rfl,hk,HB1.out.trans (hb.mono (Nat.le_trans HSZ.out HB1.out.size))⟩
 rintro v2 w2 ⟨p2,q2,rfl,hk,hb⟩
 have HK2:=Lib.hid hk
 have HB2:=Lib.hid hb
 clear hk hb
 refine hK.out _ _ (HC.out _ HB2.out) (fun hHeld=>?_)
 clear hK K
 try simp only [Act.put,List.setIfInBounds_toArray,List.set_cons_zero,List.set_cons_succ]
 refine wpAnyH_ready (rs:=[11]) (by kernel_rfl) (by simp) ?_
 refine AllReadyH.cons (o:=q4) rfl (fun K hK=>?_) AllReadyH.nil
 refine step_call (by rfl) _ _ (run_call1 (.tmp 20) (.tmp 22) _ 185 #[.pointer (some ⟨p2,0,none⟩),.pointer (some ⟨q2,0,none⟩)] (.int .i64 x) (fun _=>enter35 _ _) rfl rfl rfl) (fun v W=>v = .bool false∧W=w2) ?_ ?_
 ·refine (bad_no p2 q2 0 d x _ HK2.out H2.out).mono ?_
  rintro e W ⟨rfl,rfl⟩
  exact ⟨_,rfl,rfl,rfl⟩
 rintro v W ⟨rfl,rfl⟩
 refine hK.out _ _ (HC.out _ HB2.out) (fun hHeld=>?_)
 clear hK K
 try simp only [Act.put,List.setIfInBounds_toArray,List.set_cons_zero,List.set_cons_succ]
 refine tA 12 (.bool false) hHeld ?_
 dsimp only [List.set]
 refine tA 13 (.bool false) hHeld ?_
 dsimp only [List.set]
 refine tA 14 (.pointer (some ⟨B,0,none⟩)) hHeld ?_
 dsimp only [List.set]
 refine tA 15 (.int .i64 s) hHeld ?_
 dsimp only [List.set]
 refine tA 16 (.bool true) hHeld ?_
 dsimp only [List.set]
 refine tA 17 (.bool true) hHeld ?_
 dsimp only [List.set]
 refine tA 18 (.slice ao n c) hHeld ?_
 dsimp only [List.set]
 refine tA 19 (.int .i64 n) hHeld ?_
 dsimp only [List.set]
 refine tA 20 (.bool true) hHeld ?_
 dsimp only [List.set]
 refine tA 21 (.bool true) hHeld ?_
 dsimp only [List.set]
 refine tA 22 (.bool true) hHeld ?_
 dsimp only [List.set]
 refine tA 23 (.bool true) hHeld ?_
 dsimp only [List.set]
 refine tB 24 hHeld ?_
 refine tB 25 hHeld ?_
 refine tB 26 hHeld ?_
 refine tB 27 hHeld ?_
 refine tB 28 hHeld ?_
 refine tB 29 hHeld ?_
 refine tB 30 hHeld ?_
 refine tB 31 hHeld ?_
 refine tA 32 (.bool true) hHeld ?_
 dsimp only [List.set]
 refine tA 33 (.bool true) hHeld ?_
 dsimp only [List.set]
 refine wpAnyH_done (by kernel_rfl) ?_ _
 clear hHeld
 go_wp2
 go_ret
 exact ⟨rfl,HF.out _ HB2.out⟩
set_option maxHeartbeats 4000000 in
set_option maxRecDepth 100000 in
theorem wr_d (g n c l m d:Nat) (ao:Option Addr) (s x u y:Int) (w:World) (hg:w.cell? ⟨g,0,none⟩=some (.slice ao n c)) (hl:spl s=l) (hm:spm s=m) (_e1:IntKind.i64.wrap ((m:Int)-l)=d)
  (_e2:IntKind.i64.wrap ((l:Int)+x)=u) (_e3:IntKind.i64.wrap ((320:Int)-n)=y) (h1:¬Bad 0 18 s) (h2:¬Bad 0 d x) (h3:(s == 16)=true) (h4:((n:Int) == 0)=false) (h5:decide (y<u)=true) :
  Calls Tryz.prog 183 #[.agg #[.int .i64 s,.int .i64 x],.pointer (some ⟨g,0,none⟩)] w (Wrote w true):=by
 have HGL:=Lib.hid (World.block_lt_of_cell? w _ hg)
 have HG:=Lib.hid hg
 have HSP:=Lib.hid (And.intro hl hm)
 have H1:=Lib.hid h1
 have H2:=Lib.hid h2
 clear h1 h2
 clear hl hm hg
 obtain ⟨B,hB⟩:∃ B,B=w.heap.size:=⟨_,rfl⟩
 have HC:Hid (∀ W,Below (B+1) (w.alloc (.cells #[.int .i64 s,.int .i64 x] 187)) W→W.cell? ⟨B,0,none⟩=some (.int .i64 s)∧W.cell? ⟨B,1,none⟩=some (.int .i64 x)∧W.cell? ⟨g,0,none⟩=some (.slice ao n c)):=Lib.hid fun W hb=>by
  subst hB
  refine ⟨(hb.cell (p:=⟨_,0,none⟩) (Nat.lt_succ_self _)).trans ?_,(hb.cell (p:=⟨_,1,none⟩) (Nat.lt_succ_self _)).trans ?_,(hb.cell (p:=⟨g,0,none⟩) (Nat.lt_succ_of_lt HGL.out)).trans ?_⟩
  ·simp
  ·simp
  ·have h1:g≠w.heap.size:=Nat.ne_of_lt HGL.out
   have h2:=HG.out
   simp [World.cell?_alloc_old,h1,h2]
 have HB0:Hid (Below (B+1) (w.alloc (.cells #[.int .i64 s,.int .i64 x] 187)) (w.alloc (.cells #[.int .i64 s,.int .i64 x] 187)).drew):=Lib.hid (by
  subst hB
  have h:=(Below.refl (w.alloc (.cells #[.int .i64 s,.int .i64 x] 187)).heap.size (w.alloc (.cells #[.int .i64 s,.int .i64 x] 187))).drew
  simpa using h)
 have HF:Hid (∀ W,Below (B+1) (w.alloc (.cells #[.int .i64 s,.int .i64 x] 187)) W→Below w.heap.size w W):=Lib.hid fun W hb=>by
  subst hB
  exact ((Below.refl _ w).alloc (Nat.le_refl _) _).trans (hb.mono (Nat.le_succ _))
 have HSZ:Hid (B+1≤(w.alloc (.cells #[.int .i64 s,.int .i64 x] 187)).heap.size):=Lib.hid (by subst hB;simp)
 go_enter Tryz.func183,Tryz.ntmps183
 go_upto_region 2 with (go_at_call 181;refine (span_any _ _).mono ?_;rintro e w5 ⟨rfl,rfl⟩;rw [HSP.out.1,HSP.out.2])
 rw [←hB]
 clear hB
 generalize (w.alloc (.cells #[.int .i64 s,.int .i64 x] 187))=w3 at *
 refine wp_region_held_drew (S:=fun W=>W.cell? ⟨B,0,none⟩=some (.int .i64 s)∧W.cell? ⟨B,1,none⟩=some (.int .i64 x)∧W.cell? ⟨g,0,none⟩=some (.slice ao n c)) (by kernel_rfl) (HC.out _ HB0.out) (fun hHeld=>?_)
 refine tA 1 (.pointer (some ⟨B,0,none⟩)) hHeld ?_
 dsimp only [List.set]
 refine tA 2 (.int .i64 s) hHeld ?_
 dsimp only [List.set]
 refine wpAnyH_ready (rs:=[0]) (by kernel_rfl) (by simp) ?_
 refine AllReadyH.cons (o:=q1) rfl (fun K hK=>?_) AllReadyH.nil
 refine step_call (by rfl) _ _ (run_call2 (.func 174) (.const (.int .i64 0)) (.const (.int .i64 18)) _ 174 #[] (.int .i64 0) (.int .i64 18) (fun _=>enter21 _ _) rfl rfl rfl rfl) (fun v W=>∃ p q,v=fnOut p q∧Kept W p q 0 18∧Below (B+1) w3 W) ?_ ?_
 ·refine (outside_any 0 18 _).mono ?_
  rintro e w1 ⟨p,q,rfl,hk,hb,hp,hq⟩
  exact ⟨_,rfl,p,q,rfl,hk,HB0.out.trans (hb.mono (Nat.le_trans HSZ.out HB0.out.size))⟩
 rintro v1 w1 ⟨p1,q1,rfl,hk,hb⟩
 have HK1:=Lib.hid hk
 have HB1:=Lib.hid hb
 clear hk hb
 refine hK.out _ _ (HC.out _ HB1.out) (fun hHeld=>?_)
 clear hK K
 try simp only [Act.put,List.setIfInBounds_toArray,List.set_cons_zero,List.set_cons_succ]
 refine wpAnyH_ready (rs:=[3]) (by kernel_rfl) (by simp) ?_
 refine AllReadyH.cons (o:=q2) rfl (fun K hK=>?_) AllReadyH.nil
 refine step_call (by rfl) _ _ (run_call1 (.tmp 12) (.tmp 14) _ 185 #[.pointer (some ⟨p1,0,none⟩),.pointer (some ⟨q1,0,none⟩)] (.int .i64 s) (fun _=>enter35 _ _) rfl rfl rfl) (fun v W=>v = .bool false∧W=w1) ?_ ?_
 ·refine (bad_no p1 q1 0 18 s _ HK1.out H1.out).mono ?_
  rintro e W ⟨rfl,rfl⟩
  exact ⟨_,rfl,rfl,rfl⟩
 rintro v W ⟨rfl,rfl⟩
 refine hK.out _ _ (HC.out _ HB1.out) (fun hHeld=>?_)
 clear hK K
 try simp only [Act.put,List.setIfInBounds_toArray,List.set_cons_zero,List.set_cons_succ]
 refine tA 4 (.bool false) hHeld ?_
 dsimp only [List.set]
 refine tA 5 (.int .i64 m) hHeld ?_
 dsimp only [List.set]
 refine tA 6 (.int .i64 l) hHeld ?_
 dsimp only [List.set]
 refine tA 7 (.int .i64 d) hHeld ?_
 dsimp only [List.set]
 refine tA 9 (.pointer (some ⟨B,1,none⟩)) hHeld ?_
 dsimp only [List.set]
 refine tA 10 (.int .i64 x) hHeld ?_
 dsimp only [List.set]
 refine wpAnyH_ready (rs:=[8]) (by kernel_rfl) (by simp) ?_
 refine AllReadyH.cons (o:=q3) rfl (fun K hK=>?_) AllReadyH.nil
 refine step_call (by rfl) _ _ (run_call2 (.func 174) (.const (.int .i64 0)) (.tmp 19) _ 174 #[] (.int .i64 0) (.int .i64 d) (fun _=>enter21 _ _) rfl rfl rfl rfl) (fun v W=>∃ p q,v=fnOut p q∧Kept W p q 0 d∧Below (B+1) w3 W) ?_ ?_
 ·refine (outside_any 0 d _).mono ?_
  rintro e w2 ⟨p,q,rfl,hk,hb,hp,hq⟩
  exact ⟨_,rfl,p,q,rfl,hk,HB1.out.trans (hb.mono (Nat.le_trans HSZ.out HB1.out.size))⟩
 rintro v2 w2 ⟨p2,q2,rfl,hk,hb⟩
 have HK2:=Lib.hid hk
 have HB2:=Lib.hid hb
 clear hk hb
 refine hK.out _ _ (HC.out _ HB2.out) (fun hHeld=>?_)
 clear hK K
 try simp only [Act.put,List.setIfInBounds_toArray,List.set_cons_zero,List.set_cons_succ]
 refine wpAnyH_ready (rs:=[11]) (by kernel_rfl) (by simp) ?_
 refine AllReadyH.cons (o:=q4) rfl (fun K hK=>?_) AllReadyH.nil
 refine step_call (by rfl) _ _ (run_call1 (.tmp 20) (.tmp 22) _ 185 #[.pointer (some ⟨p2,0,none⟩),.pointer (some ⟨q2,0,none⟩)] (.int .i64 x) (fun _=>enter35 _ _) rfl rfl rfl) (fun v W=>v = .bool false∧W=w2) ?_ ?_
 ·refine (bad_no p2 q2 0 d x _ HK2.out H2.out).mono ?_
  rintro e W ⟨rfl,rfl⟩
  exact ⟨_,rfl,rfl,rfl⟩
 rintro v W ⟨rfl,rfl⟩
 refine hK.out _ _ (HC.out _ HB2.out) (fun hHeld=>?_)
 clear hK K
 try simp only [Act.put,List.setIfInBounds_toArray,List.set_cons_zero,List.set_cons_succ]
 refine tA 12 (.bool false) hHeld ?_
 dsimp only [List.set]
 refine tA 13 (.bool false) hHeld ?_
 dsimp only [List.set]
 refine tA 14 (.pointer (some ⟨B,0,none⟩)) hHeld ?_
 dsimp only [List.set]
 refine tA 15 (.int .i64 s) hHeld ?_
 dsimp only [List.set]
 refine tA 16 (.bool true) hHeld ?_
 dsimp only [List.set]
 refine tA 17 (.bool true) hHeld ?_
 dsimp only [List.set]
 refine tA 18 (.slice ao n c) hHeld ?_
 dsimp only [List.set]
 refine tA 19 (.int .i64 n) hHeld ?_
 dsimp only [List.set]
 refine tA 20 (.bool false) hHeld ?_
 dsimp only [List.set]
 refine tA 21 (.bool false) hHeld ?_
 dsimp only [List.set]
 refine tA 22 (.bool false) hHeld ?_
 dsimp only [List.set]
 refine tA 23 (.bool false) hHeld ?_
 dsimp only [List.set]
 refine tA 24 (.int .i64 l) hHeld ?_
 dsimp only [List.set]
 refine tA 25 (.pointer (some ⟨B,1,none⟩)) hHeld ?_
 dsimp only [List.set]
 refine tA 26 (.int .i64 x) hHeld ?_
 dsimp only [List.set]
 refine tA 27 (.int .i64 u) hHeld ?_
 dsimp only [List.set]
 refine tA 28 (.slice ao n c) hHeld ?_
 dsimp only [List.set]
 refine tA 29 (.int .i64 n) hHeld ?_
 dsimp only [List.set]
 refine tA 30 (.int .i64 y) hHeld ?_
 dsimp only [List.set]
 refine tA 31 (.bool true) hHeld ?_
 dsimp only [List.set]
 refine tA 32 (.bool true) hHeld ?_
 dsimp only [List.set]
 refine tA 33 (.bool true) hHeld ?_
 dsimp only [List.set]
 refine wpAnyH_done (by kernel_rfl) ?_ _
 clear hHeld
 go_wp2
 go_ret
 exact ⟨rfl,HF.out _ HB2.out⟩
set_option maxHeartbeats 4000000 in
set_option maxRecDepth 100000 in
theorem wr_e (g n c l m d:Nat) (ao:Option Addr) (s x u y:Int) (w:World) (hg:w.cell? ⟨g,0,none⟩=some (.slice ao n c)) (hl:spl s=l) (hm:spm s=m) (_e1:IntKind.i64.wrap ((m:Int)-l)=d)
  (_e2:IntKind.i64.wrap ((l:Int)+x)=u) (_e3:IntKind.i64.wrap ((320:Int)-n)=y) (h1:¬Bad 0 18 s) (h2:¬Bad 0 d x) (h3:(s == 16)=true) (h4:((n:Int) == 0)=false) (h5:decide (y<u)=false) :
  Calls Tryz.prog 183 #[.agg #[.int .i64 s,.int .i64 x],.pointer (some ⟨g,0,none⟩)] w (Wrote w false):=by
 have HGL:=Lib.hid (World.block_lt_of_cell? w _ hg)
 have HG:=Lib.hid hg
 have HSP:=Lib.hid (And.intro hl hm)
 have H1:=Lib.hid h1
 have H2:=Lib.hid h2
 clear h1 h2
 clear hl hm hg
 obtain ⟨B,hB⟩:∃ B,B=w.heap.size:=⟨_,rfl⟩
 have HC:Hid (∀ W,Below (B+1) (w.alloc (.cells #[.int .i64 s,.int .i64 x] 187)) W→W.cell? ⟨B,0,none⟩=some (.int .i64 s)∧W.cell? ⟨B,1,none⟩=some (.int .i64 x)∧W.cell? ⟨g,0,none⟩=some (.slice ao n c)):=Lib.hid fun W hb=>by
  subst hB
  refine ⟨(hb.cell (p:=⟨_,0,none⟩) (Nat.lt_succ_self _)).trans ?_,(hb.cell (p:=⟨_,1,none⟩) (Nat.lt_succ_self _)).trans ?_,(hb.cell (p:=⟨g,0,none⟩) (Nat.lt_succ_of_lt HGL.out)).trans ?_⟩
  ·simp
  ·simp
  ·have h1:g≠w.heap.size:=Nat.ne_of_lt HGL.out
   have h2:=HG.out
   simp [World.cell?_alloc_old,h1,h2]
 have HB0:Hid (Below (B+1) (w.alloc (.cells #[.int .i64 s,.int .i64 x] 187)) (w.alloc (.cells #[.int .i64 s,.int .i64 x] 187)).drew):=Lib.hid (by
  subst hB
  have h:=(Below.refl (w.alloc (.cells #[.int .i64 s,.int .i64 x] 187)).heap.size (w.alloc (.cells #[.int .i64 s,.int .i64 x] 187))).drew
  simpa using h)
 have HF:Hid (∀ W,Below (B+1) (w.alloc (.cells #[.int .i64 s,.int .i64 x] 187)) W→Below w.heap.size w W):=Lib.hid fun W hb=>by
  subst hB
  exact ((Below.refl _ w).alloc (Nat.le_refl _) _).trans (hb.mono (Nat.le_succ _))
 have HSZ:Hid (B+1≤(w.alloc (.cells #[.int .i64 s,.int .i64 x] 187)).heap.size):=Lib.hid (by subst hB;simp)
 go_enter Tryz.func183,Tryz.ntmps183
 go_upto_region 2 with (go_at_call 181;refine (span_any _ _).mono ?_;rintro e w5 ⟨rfl,rfl⟩;rw [HSP.out.1,HSP.out.2])
 rw [←hB]
 clear hB
 generalize (w.alloc (.cells #[.int .i64 s,.int .i64 x] 187))=w3 at *
 refine wp_region_held_drew (S:=fun W=>W.cell? ⟨B,0,none⟩=some (.int .i64 s)∧W.cell? ⟨B,1,none⟩=some (.int .i64 x)∧W.cell? ⟨g,0,none⟩=some (.slice ao n c)) (by kernel_rfl) (HC.out _ HB0.out) (fun hHeld=>?_)
 refine tA 1 (.pointer (some ⟨B,0,none⟩)) hHeld ?_
 dsimp only [List.set]
 refine tA 2 (.int .i64 s) hHeld ?_
 dsimp only [List.set]
 refine wpAnyH_ready (rs:=[0]) (by kernel_rfl) (by simp) ?_
 refine AllReadyH.cons (o:=q1) rfl (fun K hK=>?_) AllReadyH.nil
 refine step_call (by rfl) _ _ (run_call2 (.func 174) (.const (.int .i64 0)) (.const (.int .i64 18)) _ 174 #[] (.int .i64 0) (.int .i64 18) (fun _=>enter21 _ _) rfl rfl rfl rfl) (fun v W=>∃ p q,v=fnOut p q∧Kept W p q 0 18∧Below (B+1) w3 W) ?_ ?_
 ·refine (outside_any 0 18 _).mono ?_
  rintro e w1 ⟨p,q,rfl,hk,hb,hp,hq⟩
  exact ⟨_,rfl,p,q,rfl,hk,HB0.out.trans (hb.mono (Nat.le_trans HSZ.out HB0.out.size))⟩
 rintro v1 w1 ⟨p1,q1,rfl,hk,hb⟩
 have HK1:=Lib.hid hk
 have HB1:=Lib.hid hb
 clear hk hb
 refine hK.out _ _ (HC.out _ HB1.out) (fun hHeld=>?_)
 clear hK K
 try simp only [Act.put,List.setIfInBounds_toArray,List.set_cons_zero,List.set_cons_succ]
 refine wpAnyH_ready (rs:=[3]) (by kernel_rfl) (by simp) ?_
 refine AllReadyH.cons (o:=q2) rfl (fun K hK=>?_) AllReadyH.nil
 refine step_call (by rfl) _ _ (run_call1 (.tmp 12) (.tmp 14) _ 185 #[.pointer (some ⟨p1,0,none⟩),.pointer (some ⟨q1,0,none⟩)] (.int .i64 s) (fun _=>enter35 _ _) rfl rfl rfl) (fun v W=>v = .bool false∧W=w1) ?_ ?_
 ·refine (bad_no p1 q1 0 18 s _ HK1.out H1.out).mono ?_
  rintro e W ⟨rfl,rfl⟩
  exact ⟨_,rfl,rfl,rfl⟩
 rintro v W ⟨rfl,rfl⟩
 refine hK.out _ _ (HC.out _ HB1.out) (fun hHeld=>?_)
 clear hK K
 try simp only [Act.put,List.setIfInBounds_toArray,List.set_cons_zero,List.set_cons_succ]
 refine tA 4 (.bool false) hHeld ?_
 dsimp only [List.set]
 refine tA 5 (.int .i64 m) hHeld ?_
 dsimp only [List.set]
 refine tA 6 (.int .i64 l) hHeld ?_
 dsimp only [List.set]
 refine tA 7 (.int .i64 d) hHeld ?_
 dsimp only [List.set]
 refine tA 9 (.pointer (some ⟨B,1,none⟩)) hHeld ?_
 dsimp only [List.set]
 refine tA 10 (.int .i64 x) hHeld ?_
 dsimp only [List.set]
 refine wpAnyH_ready (rs:=[8]) (by kernel_rfl) (by simp) ?_
 refine AllReadyH.cons (o:=q3) rfl (fun K hK=>?_) AllReadyH.nil
 refine step_call (by rfl) _ _ (run_call2 (.func 174) (.const (.int .i64 0)) (.tmp 19) _ 174 #[] (.int .i64 0) (.int .i64 d) (fun _=>enter21 _ _) rfl rfl rfl rfl) (fun v W=>∃ p q,v=fnOut p q∧Kept W p q 0 d∧Below (B+1) w3 W) ?_ ?_
 ·refine (outside_any 0 d _).mono ?_
  rintro e w2 ⟨p,q,rfl,hk,hb,hp,hq⟩
  exact ⟨_,rfl,p,q,rfl,hk,HB1.out.trans (hb.mono (Nat.le_trans HSZ.out HB1.out.size))⟩
 rintro v2 w2 ⟨p2,q2,rfl,hk,hb⟩
 have HK2:=Lib.hid hk
 have HB2:=Lib.hid hb
 clear hk hb
 refine hK.out _ _ (HC.out _ HB2.out) (fun hHeld=>?_)
 clear hK K
 try simp only [Act.put,List.setIfInBounds_toArray,List.set_cons_zero,List.set_cons_succ]
 refine wpAnyH_ready (rs:=[11]) (by kernel_rfl) (by simp) ?_
 refine AllReadyH.cons (o:=q4) rfl (fun K hK=>?_) AllReadyH.nil
 refine step_call (by rfl) _ _ (run_call1 (.tmp 20) (.tmp 22) _ 185 #[.pointer (some ⟨p2,0,none⟩),.pointer (some ⟨q2,0,none⟩)] (.int .i64 x) (fun _=>enter35 _ _) rfl rfl rfl) (fun v W=>v = .bool false∧W=w2) ?_ ?_
 ·refine (bad_no p2 q2 0 d x _ HK2.out H2.out).mono ?_
  rintro e W ⟨rfl,rfl⟩
  exact ⟨_,rfl,rfl,rfl⟩
 rintro v W ⟨rfl,rfl⟩
 refine hK.out _ _ (HC.out _ HB2.out) (fun hHeld=>?_)
 clear hK K
 try simp only [Act.put,List.setIfInBounds_toArray,List.set_cons_zero,List.set_cons_succ]
 refine tA 12 (.bool false) hHeld ?_
 dsimp only [List.set]
 refine tA 13 (.bool false) hHeld ?_
 dsimp only [List.set]
 refine tA 14 (.pointer (some ⟨B,0,none⟩)) hHeld ?_
 dsimp only [List.set]
 refine tA 15 (.int .i64 s) hHeld ?_
 dsimp only [List.set]
 refine tA 16 (.bool true) hHeld ?_
 dsimp only [List.set]
 refine tA 17 (.bool true) hHeld ?_
 dsimp only [List.set]
 refine tA 18 (.slice ao n c) hHeld ?_
 dsimp only [List.set]
 refine tA 19 (.int .i64 n) hHeld ?_
 dsimp only [List.set]
 refine tA 20 (.bool false) hHeld ?_
 dsimp only [List.set]
 refine tA 21 (.bool false) hHeld ?_
 dsimp only [List.set]
 refine tA 22 (.bool false) hHeld ?_
 dsimp only [List.set]
 refine tA 23 (.bool false) hHeld ?_
 dsimp only [List.set]
 refine tA 24 (.int .i64 l) hHeld ?_
 dsimp only [List.set]
 refine tA 25 (.pointer (some ⟨B,1,none⟩)) hHeld ?_
 dsimp only [List.set]
 refine tA 26 (.int .i64 x) hHeld ?_
 dsimp only [List.set]
 refine tA 27 (.int .i64 u) hHeld ?_
 dsimp only [List.set]
 refine tA 28 (.slice ao n c) hHeld ?_
 dsimp only [List.set]
 refine tA 29 (.int .i64 n) hHeld ?_
 dsimp only [List.set]
 refine tA 30 (.int .i64 y) hHeld ?_
 dsimp only [List.set]
 refine tA 31 (.bool false) hHeld ?_
 dsimp only [List.set]
 refine tA 32 (.bool false) hHeld ?_
 dsimp only [List.set]
 refine tA 33 (.bool false) hHeld ?_
 dsimp only [List.set]
 refine wpAnyH_done (by kernel_rfl) ?_ _
 clear hHeld
 go_wp2
 go_ret
 exact ⟨rfl,HF.out _ HB2.out⟩
set_option maxHeartbeats 4000000 in
set_option maxRecDepth 100000 in
theorem wr_f (g n c l m d:Nat) (ao:Option Addr) (s x u y:Int) (w:World) (hg:w.cell? ⟨g,0,none⟩=some (.slice ao n c)) (hl:spl s=l) (hm:spm s=m) (_e1:IntKind.i64.wrap ((m:Int)-l)=d)
  (_e2:IntKind.i64.wrap ((l:Int)+x)=u) (_e3:IntKind.i64.wrap ((320:Int)-n)=y) (h1:¬Bad 0 18 s) (h2:¬Bad 0 d x) (h3:(s == 16)=false) (h5:decide (y<u)=true) :
  Calls Tryz.prog 183 #[.agg #[.int .i64 s,.int .i64 x],.pointer (some ⟨g,0,none⟩)] w (Wrote w true):=by
 have HGL:=Lib.hid (World.block_lt_of_cell? w _ hg)
 have HG:=Lib.hid hg
 have HSP:=Lib.hid (And.intro hl hm)
 have H1:=Lib.hid h1
 have H2:=Lib.hid h2
 clear h1 h2
 clear hl hm hg
 obtain ⟨B,hB⟩:∃ B,B=w.heap.size:=⟨_,rfl⟩
 have HC:Hid (∀ W,Below (B+1) (w.alloc (.cells #[.int .i64 s,.int .i64 x] 187)) W→W.cell? ⟨B,0,none⟩=some (.int .i64 s)∧W.cell? ⟨B,1,none⟩=some (.int .i64 x)∧W.cell? ⟨g,0,none⟩=some (.slice ao n c)):=Lib.hid fun W hb=>by
  subst hB
  refine ⟨(hb.cell (p:=⟨_,0,none⟩) (Nat.lt_succ_self _)).trans ?_,(hb.cell (p:=⟨_,1,none⟩) (Nat.lt_succ_self _)).trans ?_,(hb.cell (p:=⟨g,0,none⟩) (Nat.lt_succ_of_lt HGL.out)).trans ?_⟩
  ·simp
  ·simp
  ·have h1:g≠w.heap.size:=Nat.ne_of_lt HGL.out
   have h2:=HG.out
   simp [World.cell?_alloc_old,h1,h2]
 have HB0:Hid (Below (B+1) (w.alloc (.cells #[.int .i64 s,.int .i64 x] 187)) (w.alloc (.cells #[.int .i64 s,.int .i64 x] 187)).drew):=Lib.hid (by
  subst hB
  have h:=(Below.refl (w.alloc (.cells #[.int .i64 s,.int .i64 x] 187)).heap.size (w.alloc (.cells #[.int .i64 s,.int .i64 x] 187))).drew
  simpa using h)
 have HF:Hid (∀ W,Below (B+1) (w.alloc (.cells #[.int .i64 s,.int .i64 x] 187)) W→Below w.heap.size w W):=Lib.hid fun W hb=>by
  subst hB
  exact ((Below.refl _ w).alloc (Nat.le_refl _) _).trans (hb.mono (Nat.le_succ _))
 have HSZ:Hid (B+1≤(w.alloc (.cells #[.int .i64 s,.int .i64 x] 187)).heap.size):=Lib.hid (by subst hB;simp)
 go_enter Tryz.func183,Tryz.ntmps183
 go_upto_region 2 with (go_at_call 181;refine (span_any _ _).mono ?_;rintro e w5 ⟨rfl,rfl⟩;rw [HSP.out.1,HSP.out.2])
 rw [←hB]
 clear hB
 generalize (w.alloc (.cells #[.int .i64 s,.int .i64 x] 187))=w3 at *
 refine wp_region_held_drew (S:=fun W=>W.cell? ⟨B,0,none⟩=some (.int .i64 s)∧W.cell? ⟨B,1,none⟩=some (.int .i64 x)∧W.cell? ⟨g,0,none⟩=some (.slice ao n c)) (by kernel_rfl) (HC.out _ HB0.out) (fun hHeld=>?_)
 refine tA 1 (.pointer (some ⟨B,0,none⟩)) hHeld ?_
 dsimp only [List.set]
 refine tA 2 (.int .i64 s) hHeld ?_
 dsimp only [List.set]
 refine wpAnyH_ready (rs:=[0]) (by kernel_rfl) (by simp) ?_
 refine AllReadyH.cons (o:=q1) rfl (fun K hK=>?_) AllReadyH.nil
 refine step_call (by rfl) _ _ (run_call2 (.func 174) (.const (.int .i64 0)) (.const (.int .i64 18)) _ 174 #[] (.int .i64 0) (.int .i64 18) (fun _=>enter21 _ _) rfl rfl rfl rfl) (fun v W=>∃ p q,v=fnOut p q∧Kept W p q 0 18∧Below (B+1) w3 W) ?_ ?_
 ·refine (outside_any 0 18 _).mono ?_
  rintro e w1 ⟨p,q,rfl,hk,hb,hp,hq⟩
  exact ⟨_,rfl,p,q,rfl,hk,HB0.out.trans (hb.mono (Nat.le_trans HSZ.out HB0.out.size))⟩
 rintro v1 w1 ⟨p1,q1,rfl,hk,hb⟩
 have HK1:=Lib.hid hk
 have HB1:=Lib.hid hb
 clear hk hb
 refine hK.out _ _ (HC.out _ HB1.out) (fun hHeld=>?_)
 clear hK K
 try simp only [Act.put,List.setIfInBounds_toArray,List.set_cons_zero,List.set_cons_succ]
 refine wpAnyH_ready (rs:=[3]) (by kernel_rfl) (by simp) ?_
 refine AllReadyH.cons (o:=q2) rfl (fun K hK=>?_) AllReadyH.nil
 refine step_call (by rfl) _ _ (run_call1 (.tmp 12) (.tmp 14) _ 185 #[.pointer (some ⟨p1,0,none⟩),.pointer (some ⟨q1,0,none⟩)] (.int .i64 s) (fun _=>enter35 _ _) rfl rfl rfl) (fun v W=>v = .bool false∧W=w1) ?_ ?_
 ·refine (bad_no p1 q1 0 18 s _ HK1.out H1.out).mono ?_
  rintro e W ⟨rfl,rfl⟩
  exact ⟨_,rfl,rfl,rfl⟩
 rintro v W ⟨rfl,rfl⟩
 refine hK.out _ _ (HC.out _ HB1.out) (fun hHeld=>?_)
 clear hK K
 try simp only [Act.put,List.setIfInBounds_toArray,List.set_cons_zero,List.set_cons_succ]
 refine tA 4 (.bool false) hHeld ?_
 dsimp only [List.set]
 refine tA 5 (.int .i64 m) hHeld ?_
 dsimp only [List.set]
 refine tA 6 (.int .i64 l) hHeld ?_
 dsimp only [List.set]
 refine tA 7 (.int .i64 d) hHeld ?_
 dsimp only [List.set]
 refine tA 9 (.pointer (some ⟨B,1,none⟩)) hHeld ?_
 dsimp only [List.set]
 refine tA 10 (.int .i64 x) hHeld ?_
 dsimp only [List.set]
 refine wpAnyH_ready (rs:=[8]) (by kernel_rfl) (by simp) ?_
 refine AllReadyH.cons (o:=q3) rfl (fun K hK=>?_) AllReadyH.nil
 refine step_call (by rfl) _ _ (run_call2 (.func 174) (.const (.int .i64 0)) (.tmp 19) _ 174 #[] (.int .i64 0) (.int .i64 d) (fun _=>enter21 _ _) rfl rfl rfl rfl) (fun v W=>∃ p q,v=fnOut p q∧Kept W p q 0 d∧Below (B+1) w3 W) ?_ ?_
 ·refine (outside_any 0 d _).mono ?_
  rintro e w2 ⟨p,q,rfl,hk,hb,hp,hq⟩
  exact ⟨_,rfl,p,q,rfl,hk,HB1.out.trans (hb.mono (Nat.le_trans HSZ.out HB1.out.size))⟩
 rintro v2 w2 ⟨p2,q2,rfl,hk,hb⟩
 have HK2:=Lib.hid hk
 have HB2:=Lib.hid hb
 clear hk hb
 refine hK.out _ _ (HC.out _ HB2.out) (fun hHeld=>?_)
 clear hK K
 try simp only [Act.put,List.setIfInBounds_toArray,List.set_cons_zero,List.set_cons_succ]
 refine wpAnyH_ready (rs:=[11]) (by kernel_rfl) (by simp) ?_
 refine AllReadyH.cons (o:=q4) rfl (fun K hK=>?_) AllReadyH.nil
 refine step_call (by rfl) _ _ (run_call1 (.tmp 20) (.tmp 22) _ 185 #[.pointer (some ⟨p2,0,none⟩),.pointer (some ⟨q2,0,none⟩)] (.int .i64 x) (fun _=>enter35 _ _) rfl rfl rfl) (fun v W=>v = .bool false∧W=w2) ?_ ?_
 ·refine (bad_no p2 q2 0 d x _ HK2.out H2.out).mono ?_
  rintro e W ⟨rfl,rfl⟩
  exact ⟨_,rfl,rfl,rfl⟩
 rintro v W ⟨rfl,rfl⟩
 refine hK.out _ _ (HC.out _ HB2.out) (fun hHeld=>?_)
 clear hK K
 try simp only [Act.put,List.setIfInBounds_toArray,List.set_cons_zero,List.set_cons_succ]
 refine tA 12 (.bool false) hHeld ?_
 dsimp only [List.set]
 refine tA 13 (.bool false) hHeld ?_
 dsimp only [List.set]
 refine tA 14 (.pointer (some ⟨B,0,none⟩)) hHeld ?_
 dsimp only [List.set]
 refine tA 15 (.int .i64 s) hHeld ?_
 dsimp only [List.set]
 refine tA 16 (.bool false) hHeld ?_
 dsimp only [List.set]
 refine tA 17 (.bool false) hHeld ?_
 dsimp only [List.set]
 refine tB 18 hHeld ?_
 refine tB 19 hHeld ?_
 refine tB 20 hHeld ?_
 refine tA 21 (.bool false) hHeld ?_
 dsimp only [List.set]
 refine tA 22 (.bool false) hHeld ?_
 dsimp only [List.set]
 refine tA 23 (.bool false) hHeld ?_
 dsimp only [List.set]
 refine tA 24 (.int .i64 l) hHeld ?_
 dsimp only [List.set]
 refine tA 25 (.pointer (some ⟨B,1,none⟩)) hHeld ?_
 dsimp only [List.set]
 refine tA 26 (.int .i64 x) hHeld ?_
 dsimp only [List.set]
 refine tA 27 (.int .i64 u) hHeld ?_
 dsimp only [List.set]
 refine tA 28 (.slice ao n c) hHeld ?_
 dsimp only [List.set]
 refine tA 29 (.int .i64 n) hHeld ?_
 dsimp only [List.set]
 refine tA 30 (.int .i64 y) hHeld ?_
 dsimp only [List.set]
 refine tA 31 (.bool true) hHeld ?_
 dsimp only [List.set]
 refine tA 32 (.bool true) hHeld ?_
 dsimp only [List.set]
 refine tA 33 (.bool true) hHeld ?_
 dsimp only [List.set]
 refine wpAnyH_done (by kernel_rfl) ?_ _
 clear hHeld
 go_wp2
 go_ret
 exact ⟨rfl,HF.out _ HB2.out⟩
set_option maxHeartbeats 4000000 in
set_option maxRecDepth 100000 in
theorem wr_g (g n c l m d:Nat) (ao:Option Addr) (s x u y:Int) (w:World) (hg:w.cell? ⟨g,0,none⟩=some (.slice ao n c)) (hl:spl s=l) (hm:spm s=m) (_e1:IntKind.i64.wrap ((m:Int)-l)=d)
  (_e2:IntKind.i64.wrap ((l:Int)+x)=u) (_e3:IntKind.i64.wrap ((320:Int)-n)=y) (h1:¬Bad 0 18 s) (h2:¬Bad 0 d x) (h3:(s == 16)=false) (h5:decide (y<u)=false) :
  Calls Tryz.prog 183 #[.agg #[.int .i64 s,.int .i64 x],.pointer (some ⟨g,0,none⟩)] w (Wrote w false):=by
 have HGL:=Lib.hid (World.block_lt_of_cell? w _ hg)
 have HG:=Lib.hid hg
 have HSP:=Lib.hid (And.intro hl hm)
 have H1:=Lib.hid h1
 have H2:=Lib.hid h2
 clear h1 h2
 clear hl hm hg
 obtain ⟨B,hB⟩:∃ B,B=w.heap.size:=⟨_,rfl⟩
 have HC:Hid (∀ W,Below (B+1) (w.alloc (.cells #[.int .i64 s,.int .i64 x] 187)) W→W.cell? ⟨B,0,none⟩=some (.int .i64 s)∧W.cell? ⟨B,1,none⟩=some (.int .i64 x)∧W.cell? ⟨g,0,none⟩=some (.slice ao n c)):=Lib.hid fun W hb=>by
  subst hB
  refine ⟨(hb.cell (p:=⟨_,0,none⟩) (Nat.lt_succ_self _)).trans ?_,(hb.cell (p:=⟨_,1,none⟩) (Nat.lt_succ_self _)).trans ?_,(hb.cell (p:=⟨g,0,none⟩) (Nat.lt_succ_of_lt HGL.out)).trans ?_⟩
  ·simp
  ·simp
  ·have h1:g≠w.heap.size:=Nat.ne_of_lt HGL.out
   have h2:=HG.out
   simp [World.cell?_alloc_old,h1,h2]
 have HB0:Hid (Below (B+1) (w.alloc (.cells #[.int .i64 s,.int .i64 x] 187)) (w.alloc (.cells #[.int .i64 s,.int .i64 x] 187)).drew):=Lib.hid (by
  subst hB
  have h:=(Below.refl (w.alloc (.cells #[.int .i64 s,.int .i64 x] 187)).heap.size (w.alloc (.cells #[.int .i64 s,.int .i64 x] 187))).drew
  simpa using h)
 have HF:Hid (∀ W,Below (B+1) (w.alloc (.cells #[.int .i64 s,.int .i64 x] 187)) W→Below w.heap.size w W):=Lib.hid fun W hb=>by
  subst hB
  exact ((Below.refl _ w).alloc (Nat.le_refl _) _).trans (hb.mono (Nat.le_succ _))
 have HSZ:Hid (B+1≤(w.alloc (.cells #[.int .i64 s,.int .i64 x] 187)).heap.size):=Lib.hid (by subst hB;simp)
 go_enter Tryz.func183,Tryz.ntmps183
 go_upto_region 2 with (go_at_call 181;refine (span_any _ _).mono ?_;rintro e w5 ⟨rfl,rfl⟩;rw [HSP.out.1,HSP.out.2])
 rw [←hB]
 clear hB
 generalize (w.alloc (.cells #[.int .i64 s,.int .i64 x] 187))=w3 at *
 refine wp_region_held_drew (S:=fun W=>W.cell? ⟨B,0,none⟩=some (.int .i64 s)∧W.cell? ⟨B,1,none⟩=some (.int .i64 x)∧W.cell? ⟨g,0,none⟩=some (.slice ao n c)) (by kernel_rfl) (HC.out _ HB0.out) (fun hHeld=>?_)
 refine tA 1 (.pointer (some ⟨B,0,none⟩)) hHeld ?_
 dsimp only [List.set]
 refine tA 2 (.int .i64 s) hHeld ?_
 dsimp only [List.set]
 refine wpAnyH_ready (rs:=[0]) (by kernel_rfl) (by simp) ?_
 refine AllReadyH.cons (o:=q1) rfl (fun K hK=>?_) AllReadyH.nil
 refine step_call (by rfl) _ _ (run_call2 (.func 174) (.const (.int .i64 0)) (.const (.int .i64 18)) _ 174 #[] (.int .i64 0) (.int .i64 18) (fun _=>enter21 _ _) rfl rfl rfl rfl) (fun v W=>∃ p q,v=fnOut p q∧Kept W p q 0 18∧Below (B+1) w3 W) ?_ ?_
 ·refine (outside_any 0 18 _).mono ?_
  rintro e w1 ⟨p,q,rfl,hk,hb,hp,hq⟩
  exact ⟨_,rfl,p,q,rfl,hk,HB0.out.trans (hb.mono (Nat.le_trans HSZ.out HB0.out.size))⟩
 rintro v1 w1 ⟨p1,q1,rfl,hk,hb⟩
 have HK1:=Lib.hid hk
 have HB1:=Lib.hid hb
 clear hk hb
 refine hK.out _ _ (HC.out _ HB1.out) (fun hHeld=>?_)
 clear hK K
 try simp only [Act.put,List.setIfInBounds_toArray,List.set_cons_zero,List.set_cons_succ]
 refine wpAnyH_ready (rs:=[3]) (by kernel_rfl) (by simp) ?_
 refine AllReadyH.cons (o:=q2) rfl (fun K hK=>?_) AllReadyH.nil
 refine step_call (by rfl) _ _ (run_call1 (.tmp 12) (.tmp 14) _ 185 #[.pointer (some ⟨p1,0,none⟩),.pointer (some ⟨q1,0,none⟩)] (.int .i64 s) (fun _=>enter35 _ _) rfl rfl rfl) (fun v W=>v = .bool false∧W=w1) ?_ ?_
 ·refine (bad_no p1 q1 0 18 s _ HK1.out H1.out).mono ?_
  rintro e W ⟨rfl,rfl⟩
  exact ⟨_,rfl,rfl,rfl⟩
 rintro v W ⟨rfl,rfl⟩
 refine hK.out _ _ (HC.out _ HB1.out) (fun hHeld=>?_)
 clear hK K
 try simp only [Act.put,List.setIfInBounds_toArray,List.set_cons_zero,List.set_cons_succ]
 refine tA 4 (.bool false) hHeld ?_
 dsimp only [List.set]
 refine tA 5 (.int .i64 m) hHeld ?_
 dsimp only [List.set]
 refine tA 6 (.int .i64 l) hHeld ?_
 dsimp only [List.set]
 refine tA 7 (.int .i64 d) hHeld ?_
 dsimp only [List.set]
 refine tA 9 (.pointer (some ⟨B,1,none⟩)) hHeld ?_
 dsimp only [List.set]
 refine tA 10 (.int .i64 x) hHeld ?_
 dsimp only [List.set]
 refine wpAnyH_ready (rs:=[8]) (by kernel_rfl) (by simp) ?_
 refine AllReadyH.cons (o:=q3) rfl (fun K hK=>?_) AllReadyH.nil
 refine step_call (by rfl) _ _ (run_call2 (.func 174) (.const (.int .i64 0)) (.tmp 19) _ 174 #[] (.int .i64 0) (.int .i64 d) (fun _=>enter21 _ _) rfl rfl rfl rfl) (fun v W=>∃ p q,v=fnOut p q∧Kept W p q 0 d∧Below (B+1) w3 W) ?_ ?_
 ·refine (outside_any 0 d _).mono ?_
  rintro e w2 ⟨p,q,rfl,hk,hb,hp,hq⟩
  exact ⟨_,rfl,p,q,rfl,hk,HB1.out.trans (hb.mono (Nat.le_trans HSZ.out HB1.out.size))⟩
 rintro v2 w2 ⟨p2,q2,rfl,hk,hb⟩
 have HK2:=Lib.hid hk
 have HB2:=Lib.hid hb
 clear hk hb
 refine hK.out _ _ (HC.out _ HB2.out) (fun hHeld=>?_)
 clear hK K
 try simp only [Act.put,List.setIfInBounds_toArray,List.set_cons_zero,List.set_cons_succ]
 refine wpAnyH_ready (rs:=[11]) (by kernel_rfl) (by simp) ?_
 refine AllReadyH.cons (o:=q4) rfl (fun K hK=>?_) AllReadyH.nil
 refine step_call (by rfl) _ _ (run_call1 (.tmp 20) (.tmp 22) _ 185 #[.pointer (some ⟨p2,0,none⟩),.pointer (some ⟨q2,0,none⟩)] (.int .i64 x) (fun _=>enter35 _ _) rfl rfl rfl) (fun v W=>v = .bool false∧W=w2) ?_ ?_
 ·refine (bad_no p2 q2 0 d x _ HK2.out H2.out).mono ?_
  rintro e W ⟨rfl,rfl⟩
  exact ⟨_,rfl,rfl,rfl⟩
 rintro v W ⟨rfl,rfl⟩
 refine hK.out _ _ (HC.out _ HB2.out) (fun hHeld=>?_)
 clear hK K
 try simp only [Act.put,List.setIfInBounds_toArray,List.set_cons_zero,List.set_cons_succ]
 refine tA 12 (.bool false) hHeld ?_
 dsimp only [List.set]
 refine tA 13 (.bool false) hHeld ?_
 dsimp only [List.set]
 refine tA 14 (.pointer (some ⟨B,0,none⟩)) hHeld ?_
 dsimp only [List.set]
 refine tA 15 (.int .i64 s) hHeld ?_
 dsimp only [List.set]
 refine tA 16 (.bool false) hHeld ?_
 dsimp only [List.set]
 refine tA 17 (.bool false) hHeld ?_
 dsimp only [List.set]
 refine tB 18 hHeld ?_
 refine tB 19 hHeld ?_
 refine tB 20 hHeld ?_
 refine tA 21 (.bool false) hHeld ?_
 dsimp only [List.set]
 refine tA 22 (.bool false) hHeld ?_
 dsimp only [List.set]
 refine tA 23 (.bool false) hHeld ?_
 dsimp only [List.set]
 refine tA 24 (.int .i64 l) hHeld ?_
 dsimp only [List.set]
 refine tA 25 (.pointer (some ⟨B,1,none⟩)) hHeld ?_
 dsimp only [List.set]
 refine tA 26 (.int .i64 x) hHeld ?_
 dsimp only [List.set]
 refine tA 27 (.int .i64 u) hHeld ?_
 dsimp only [List.set]
 refine tA 28 (.slice ao n c) hHeld ?_
 dsimp only [List.set]
 refine tA 29 (.int .i64 n) hHeld ?_
 dsimp only [List.set]
 refine tA 30 (.int .i64 y) hHeld ?_
 dsimp only [List.set]
 refine tA 31 (.bool false) hHeld ?_
 dsimp only [List.set]
 refine tA 32 (.bool false) hHeld ?_
 dsimp only [List.set]
 refine tA 33 (.bool false) hHeld ?_
 dsimp only [List.set]
 refine wpAnyH_done (by kernel_rfl) ?_ _
 clear hHeld
 go_wp2
 go_ret
 exact ⟨rfl,HF.out _ HB2.out⟩
theorem wrong_any (g n c:Nat) (ao:Option Addr) (s x:Int) (w:World) (hg:w.cell? ⟨g,0,none⟩=some (.slice ao n c)) (hn:n≤320) :
  Calls Tryz.prog 183 #[.agg #[.int .i64 s,.int .i64 x],.pointer (some ⟨g,0,none⟩)] w (Wrote w (decide (Wi s x n))):=by
 have hs:=sp_lim s
 have e1:IntKind.i64.wrap ((spm s:Int)-spl s)=((spm s-spl s:Nat):Int):=by rw [IntKind.wrap_i64];omega
 have e3:IntKind.i64.wrap ((320:Int)-n)=320-n:=by rw [IntKind.wrap_i64];omega
 have e5:((spm s-spl s:Nat):Int)=(spm s:Int)-spl s:=by omega
 by_cases h1:Bad 0 18 s
 ·rw [decide_eq_true (show Wi s x n from .inl h1)]
  exact wr_a g n c (spl s) (spm s) _ ao s x _ _ w hg rfl rfl e1 rfl e3 h1
 ·by_cases h2:Bad 0 ((spm s:Int)-spl s) x
  ·rw [decide_eq_true (show Wi s x n from .inr (.inl h2))]
   exact wr_b g n c (spl s) (spm s) _ ao s x _ _ w hg rfl rfl e1 rfl e3 h1 (by rw [e5];exact h2)
  ·have e2:IntKind.i64.wrap ((spl s:Int)+x)=spl s+x:=by unfold Bad at h2;rw [IntKind.wrap_i64];omega
   have h2':¬Bad 0 ((spm s-spl s:Nat):Int) x:=by rw [e5];exact h2
   by_cases h3:s=16
   ·have h3':(s == 16)=true:=by simp [h3]
    by_cases h4:n=0
    ·rw [decide_eq_true (show Wi s x n from .inr (.inr (.inl ⟨h3,h4⟩)))]
     exact wr_c g n c (spl s) (spm s) _ ao s x _ _ w hg rfl rfl e1 e2 e3 h1 h2' h3' (by simp [h4])
    ·have h4':((n:Int) == 0)=false:=by simp [h4]
     by_cases h5:(320-n:Int)<spl s+x
     ·rw [decide_eq_true (show Wi s x n from .inr (.inr (.inr h5)))]
      exact wr_d g n c (spl s) (spm s) _ ao s x _ _ w hg rfl rfl e1 e2 e3 h1 h2' h3' h4' (decide_eq_true h5)
     ·rw [decide_eq_false (show ¬Wi s x n from fun h=>by rcases h with h | h | h | h;exact h1 h;exact h2 h;exact h4 h.2;exact h5 h)]
      exact wr_e g n c (spl s) (spm s) _ ao s x _ _ w hg rfl rfl e1 e2 e3 h1 h2' h3' h4' (decide_eq_false h5)
   ·have h3':(s == 16)=false:=by simp [h3]
    by_cases h5:(320-n:Int)<spl s+x
    ·rw [decide_eq_true (show Wi s x n from .inr (.inr (.inr h5)))]
     exact wr_f g n c (spl s) (spm s) _ ao s x _ _ w hg rfl rfl e1 e2 e3 h1 h2' h3' (decide_eq_true h5)
    ·rw [decide_eq_false (show ¬Wi s x n from fun h=>by rcases h with h | h | h | h;exact h1 h;exact h2 h;exact h3 h.1;exact h5 h)]
     exact wr_g g n c (spl s) (spm s) _ ao s x _ _ w hg rfl rfl e1 e2 e3 h1 h2' h3' (decide_eq_false h5)
end
end Go.Proofs.YtacpfpghokcdlaaGreatDoor.Z
