/- Part 9. -/
import Derived.Test.YthbbpooobaahiaaGreatDoorXB8
namespace Go.Proofs.YthbbpooobaahiaaGreatDoor.Z
set_option maxRecDepth 100000
section
open Go.RowKit
def Wrote (w:World) (b:Bool) (e:Ending) (w':World):Prop:=e = .returned (.bool b)∧Below w.heap.size w w'
set_option maxHeartbeats 4000000 in
set_option maxRecDepth 100000 in
theorem wr_a (g n c l m d:Nat) (ao:Option Addr) (s x u y:Int) (w:World) (hg:w.cell? ⟨g,0,none⟩=some (.slice ao n c)) (hl:spl s=l) (hm:spm s=m) (_e1:IntKind.i64.wrap ((m:Int)-l)=d)
  (_e2:IntKind.i64.wrap ((l:Int)+x)=u) (_e3:IntKind.i64.wrap ((320:Int)-n)=y) (h1:Bad 0 18 s) :
  Calls Tryz.prog 192 #[.agg #[.int .i64 s,.int .i64 x],.pointer (some ⟨g,0,none⟩)] w (Wrote w true):=by
 have HGL:=Lib.hid (World.block_lt_of_cell? w _ hg)
 have HG:=Lib.hid hg
 have HSP:=Lib.hid (And.intro hl hm)
 have H1:=Lib.hid h1
 clear h1
 clear hl hm hg
 obtain ⟨B,hB⟩:∃ B,B=w.heap.size:=⟨_,rfl⟩
 have HC:Hid (∀ W,Below (B+1) (w.alloc (.cells #[.int .i64 s,.int .i64 x] 252)) W→W.cell? ⟨B,0,none⟩=some (.int .i64 s)∧W.cell? ⟨B,1,none⟩=some (.int .i64 x)∧W.cell? ⟨g,0,none⟩=some (.slice ao n c)):=Lib.hid fun W hb=>by
  subst hB
  refine ⟨(hb.cell (p:=⟨_,0,none⟩) (Nat.lt_succ_self _)).trans ?_,(hb.cell (p:=⟨_,1,none⟩) (Nat.lt_succ_self _)).trans ?_,(hb.cell (p:=⟨g,0,none⟩) (Nat.lt_succ_of_lt HGL.out)).trans ?_⟩
  ·simp
  ·simp
  ·have h1:g≠w.heap.size:=Nat.ne_of_lt HGL.out
   have h2:=HG.out
   simp [World.cell?_alloc_old,h1,h2]
 have HB0:Hid (Below (B+1) (w.alloc (.cells #[.int .i64 s,.int .i64 x] 252)) (w.alloc (.cells #[.int .i64 s,.int .i64 x] 252)).drew):=Lib.hid (by
  subst hB
  have h:=(Below.refl (w.alloc (.cells #[.int .i64 s,.int .i64 x] 252)).heap.size (w.alloc (.cells #[.int .i64 s,.int .i64 x] 252))).drew
  simpa using h)
 have HF:Hid (∀ W,Below (B+1) (w.alloc (.cells #[.int .i64 s,.int .i64 x] 252)) W→Below w.heap.size w W):=Lib.hid fun W hb=>by
  subst hB
  exact ((Below.refl _ w).alloc (Nat.le_refl _) _).trans (hb.mono (Nat.le_succ _))
 have HSZ:Hid (B+1≤(w.alloc (.cells #[.int .i64 s,.int .i64 x] 252)).heap.size):=Lib.hid (by subst hB;simp)
 go_enter Tryz.func192,Tryz.ntmps192
 go_upto_region 2 with (go_at_call 193;refine (span_any _ _).mono ?_;rintro e w5 ⟨rfl,rfl⟩;rw [HSP.out.1,HSP.out.2])
 rw [←hB]
 clear hB
 generalize (w.alloc (.cells #[.int .i64 s,.int .i64 x] 252))=w3 at *
 refine wp_region_held_drew (S:=fun W=>W.cell? ⟨B,0,none⟩=some (.int .i64 s)∧W.cell? ⟨B,1,none⟩=some (.int .i64 x)∧W.cell? ⟨g,0,none⟩=some (.slice ao n c)) (by kernel_rfl) (HC.out _ HB0.out) (fun hHeld=>?_)
 refine wpAnyH_take (i:=1) (v := .pointer (some ⟨B,0,none⟩)) (oi:={ dst:=some 13,op:=Op.fieldAddr 252 (Operand.tmp 2) 0,type:=0,pos := "lens.go:97",after := #[],guard:=none }) rfl (by kernel_rfl) (by kernel_rfl) (by kernel_rfl) (fun _ _ _ h=>h) (Or.inl ⟨by rfl,fun W hSw=>by obtain ⟨hs1,hs2,hs3⟩:=hSw;go_simp⟩) hHeld ?_
 try simp only [Act.put,List.setIfInBounds_toArray,List.set_cons_zero,List.set_cons_succ]
 refine wpAnyH_take (i:=2) (v := .int .i64 s) (oi:={ dst:=some 14,op:=Op.load 3 (Operand.tmp 13),type:=3,pos := "lens.go:97",after := #[{ on:=1,ground:=Ground.data }],guard:=none }) rfl (by kernel_rfl) (by kernel_rfl) (by kernel_rfl) (fun _ _ _ h=>h) (Or.inl ⟨by rfl,fun W hSw=>by obtain ⟨hs1,hs2,hs3⟩:=hSw;go_simp⟩) hHeld ?_
 try simp only [Act.put,List.setIfInBounds_toArray,List.set_cons_zero,List.set_cons_succ]
 refine wpAnyH_ready (rs:=[0]) (by kernel_rfl) (by simp) ?_
 refine AllReadyH.cons (o:={ dst:=some 12,op:=Op.call { callee:=Callee.value (Operand.func 194),args := #[Operand.const (Value.int IntKind.i64 0),Operand.const (Value.int IntKind.i64 18)],argTypes := #[3,3] },type:=174,pos := "lens.go:97",after := #[],guard:=none }) rfl (fun K hK=>?_) AllReadyH.nil
 refine step_call (by rfl) _ _ (run_call2 (.func 194) (.const (.int .i64 0)) (.const (.int .i64 18)) _ 194 #[] (.int .i64 0) (.int .i64 18) (fun _=>enter21 _ _) rfl rfl rfl rfl) (fun v W=>∃ p q,v=fnOut p q∧Kept W p q 0 18∧Below (B+1) w3 W) ?_ ?_
 ·refine (outside_any 0 18 _).mono ?_
  rintro e w1 ⟨p,q,rfl,hk,hb,hp,hq⟩
  exact ⟨_,rfl,p,q,rfl,hk,HB0.out.trans (hb.mono (Nat.le_trans HSZ.out HB0.out.size))⟩
 rintro v1 w1 ⟨p1,q1,rfl,hk,hb⟩
 have HK1:=Lib.hid hk
 have HB1:=Lib.hid hb
 clear hk hb
 refine hK.out _ _ (HC.out _ HB1.out) (fun hHeld=>?_)
 clear hK K
 try simp only [Act.put,List.setIfInBounds_toArray,List.set_cons_zero,List.set_cons_succ]
 refine wpAnyH_ready (rs:=[3]) (by kernel_rfl) (by simp) ?_
 refine AllReadyH.cons (o:={ dst:=some 15,op:=Op.call { callee:=Callee.value (Operand.tmp 12),args := #[Operand.tmp 14],argTypes := #[3] },type:=4,pos := "lens.go:97",after := #[{ on:=0,ground:=Ground.data },{ on:=2,ground:=Ground.data },{ on:=0,ground:=Ground.chain }],guard:=none }) rfl (fun K hK=>?_) AllReadyH.nil
 refine step_call (by rfl) _ _ (run_call1 (.tmp 12) (.tmp 14) _ 197 #[.pointer (some ⟨p1,0,none⟩),.pointer (some ⟨q1,0,none⟩)] (.int .i64 s) (fun _=>enter35 _ _) rfl rfl rfl) (fun v W=>v = .bool true∧W=w1) ?_ ?_
 ·refine (bad_yes p1 q1 0 18 s _ HK1.out H1.out).mono ?_
  rintro e W ⟨rfl,rfl⟩
  exact ⟨_,rfl,rfl,rfl⟩
 rintro v W ⟨rfl,rfl⟩
 refine hK.out _ _ (HC.out _ HB1.out) (fun hHeld=>?_)
 clear hK K
 try simp only [Act.put,List.setIfInBounds_toArray,List.set_cons_zero,List.set_cons_succ]
 refine wpAnyH_take (i:=4) (v := .bool true) (oi:={ dst:=some 16,op:=Op.move (Operand.tmp 15),type:=4,pos := "lens.go:97",after := #[{ on:=3,ground:=Ground.data },{ on:=3,ground:=Ground.chain }],guard:=none }) rfl (by kernel_rfl) (by kernel_rfl) (by kernel_rfl) (fun _ _ _ h=>h) (Or.inl ⟨by rfl,fun W hSw=>by obtain ⟨hs1,hs2,hs3⟩:=hSw;go_simp⟩) hHeld ?_
 try simp only [Act.put,List.setIfInBounds_toArray,List.set_cons_zero,List.set_cons_succ]
 refine wpAnyH_take (i:=5) (v:=undef) (oi:={ dst:=some 17,op:=Op.move (Operand.tmp 5),type:=3,pos := "lens.go:97",after := #[{ on:=4,ground:=Ground.guard }],guard:=some (4,false) }) rfl (by kernel_rfl) (by kernel_rfl) (by kernel_rfl) (fun _ _ _ h=>h) (Or.inr ⟨by rfl,rfl⟩) hHeld ?_
 try simp only [Act.put,List.setIfInBounds_toArray,List.set_cons_zero,List.set_cons_succ]
 refine wpAnyH_take (i:=6) (v:=undef) (oi:={ dst:=some 18,op:=Op.move (Operand.tmp 4),type:=3,pos := "lens.go:97",after := #[{ on:=4,ground:=Ground.guard }],guard:=some (4,false) }) rfl (by kernel_rfl) (by kernel_rfl) (by kernel_rfl) (fun _ _ _ h=>h) (Or.inr ⟨by rfl,rfl⟩) hHeld ?_
 try simp only [Act.put,List.setIfInBounds_toArray,List.set_cons_zero,List.set_cons_succ]
 refine wpAnyH_take (i:=7) (v:=undef) (oi:={ dst:=some 19,op:=Op.binOp BinOp.sub 3 (Operand.tmp 17) (Operand.tmp 18) 3,type:=3,pos := "lens.go:97",after := #[{ on:=5,ground:=Ground.data },{ on:=6,ground:=Ground.data },{ on:=4,ground:=Ground.guard }],guard:=some (4,false) }) rfl (by kernel_rfl) (by kernel_rfl) (by kernel_rfl) (fun _ _ _ h=>h) (Or.inr ⟨by rfl,rfl⟩) hHeld ?_
 try simp only [Act.put,List.setIfInBounds_toArray,List.set_cons_zero,List.set_cons_succ]
 refine wpAnyH_take (i:=8) (v:=undef) (oi:={ dst:=some 20,op:=Op.call { callee:=Callee.value (Operand.func 194),args := #[Operand.const (Value.int IntKind.i64 0),Operand.tmp 19],argTypes := #[3,3] },type:=174,pos := "lens.go:97",after := #[{ on:=7,ground:=Ground.data },{ on:=4,ground:=Ground.chain },{ on:=4,ground:=Ground.guard }],guard:=some (4,false) }) rfl (by kernel_rfl) (by kernel_rfl) (by kernel_rfl) (fun _ _ _ h=>h) (Or.inr ⟨by rfl,rfl⟩) hHeld ?_
 try simp only [Act.put,List.setIfInBounds_toArray,List.set_cons_zero,List.set_cons_succ]
 refine wpAnyH_take (i:=9) (v:=undef) (oi:={ dst:=some 21,op:=Op.fieldAddr 252 (Operand.tmp 2) 1,type:=0,pos := "lens.go:97",after := #[{ on:=4,ground:=Ground.guard }],guard:=some (4,false) }) rfl (by kernel_rfl) (by kernel_rfl) (by kernel_rfl) (fun _ _ _ h=>h) (Or.inr ⟨by rfl,rfl⟩) hHeld ?_
 try simp only [Act.put,List.setIfInBounds_toArray,List.set_cons_zero,List.set_cons_succ]
 refine wpAnyH_take (i:=10) (v:=undef) (oi:={ dst:=some 22,op:=Op.load 3 (Operand.tmp 21),type:=3,pos := "lens.go:97",after := #[{ on:=9,ground:=Ground.data },{ on:=4,ground:=Ground.guard }],guard:=some (4,false) }) rfl (by kernel_rfl) (by kernel_rfl) (by kernel_rfl) (fun _ _ _ h=>h) (Or.inr ⟨by rfl,rfl⟩) hHeld ?_
 try simp only [Act.put,List.setIfInBounds_toArray,List.set_cons_zero,List.set_cons_succ]
 refine wpAnyH_take (i:=11) (v:=undef) (oi:={ dst:=some 23,op:=Op.call { callee:=Callee.value (Operand.tmp 20),args := #[Operand.tmp 22],argTypes := #[3] },type:=4,pos := "lens.go:97",after := #[{ on:=8,ground:=Ground.data },{ on:=10,ground:=Ground.data },{ on:=8,ground:=Ground.chain },{ on:=4,ground:=Ground.guard }],guard:=some (4,false) }) rfl (by kernel_rfl) (by kernel_rfl) (by kernel_rfl) (fun _ _ _ h=>h) (Or.inr ⟨by rfl,rfl⟩) hHeld ?_
 try simp only [Act.put,List.setIfInBounds_toArray,List.set_cons_zero,List.set_cons_succ]
 refine wpAnyH_take (i:=12) (v := .bool true) (oi:={ dst:=some 24,op:=Op.pick (Operand.tmp 16) (Operand.const (Value.bool true)) (Operand.tmp 23),type:=4,pos := "lens.go:97",after := #[{ on:=4,ground:=Ground.data },{ on:=11,ground:=Ground.data }],guard:=none }) rfl (by kernel_rfl) (by kernel_rfl) (by kernel_rfl) (fun _ _ _ h=>h) (Or.inl ⟨by rfl,fun W hSw=>by obtain ⟨hs1,hs2,hs3⟩:=hSw;go_simp⟩) hHeld ?_
 try simp only [Act.put,List.setIfInBounds_toArray,List.set_cons_zero,List.set_cons_succ]
 refine wpAnyH_take (i:=13) (v := .bool true) (oi:={ dst:=some 25,op:=Op.move (Operand.tmp 24),type:=4,pos := "lens.go:97",after := #[{ on:=12,ground:=Ground.data },{ on:=11,ground:=Ground.chain }],guard:=none }) rfl (by kernel_rfl) (by kernel_rfl) (by kernel_rfl) (fun _ _ _ h=>h) (Or.inl ⟨by rfl,fun W hSw=>by obtain ⟨hs1,hs2,hs3⟩:=hSw;go_simp⟩) hHeld ?_
 try simp only [Act.put,List.setIfInBounds_toArray,List.set_cons_zero,List.set_cons_succ]
 refine wpAnyH_take (i:=14) (v:=undef) (oi:={ dst:=some 26,op:=Op.fieldAddr 252 (Operand.tmp 2) 0,type:=0,pos := "lens.go:97",after := #[{ on:=13,ground:=Ground.guard }],guard:=some (13,false) }) rfl (by kernel_rfl) (by kernel_rfl) (by kernel_rfl) (fun _ _ _ h=>h) (Or.inr ⟨by rfl,rfl⟩) hHeld ?_
 try simp only [Act.put,List.setIfInBounds_toArray,List.set_cons_zero,List.set_cons_succ]
 refine wpAnyH_take (i:=15) (v:=undef) (oi:={ dst:=some 27,op:=Op.load 3 (Operand.tmp 26),type:=3,pos := "lens.go:97",after := #[{ on:=14,ground:=Ground.data },{ on:=13,ground:=Ground.guard }],guard:=some (13,false) }) rfl (by kernel_rfl) (by kernel_rfl) (by kernel_rfl) (fun _ _ _ h=>h) (Or.inr ⟨by rfl,rfl⟩) hHeld ?_
 try simp only [Act.put,List.setIfInBounds_toArray,List.set_cons_zero,List.set_cons_succ]
 refine wpAnyH_take (i:=16) (v:=undef) (oi:={ dst:=some 28,op:=Op.binOp BinOp.eql 3 (Operand.tmp 27) (Operand.const (Value.int IntKind.i64 16)) 3,type:=4,pos := "lens.go:97",after := #[{ on:=15,ground:=Ground.data },{ on:=13,ground:=Ground.guard }],guard:=some (13,false) }) rfl (by kernel_rfl) (by kernel_rfl) (by kernel_rfl) (fun _ _ _ h=>h) (Or.inr ⟨by rfl,rfl⟩) hHeld ?_
 try simp only [Act.put,List.setIfInBounds_toArray,List.set_cons_zero,List.set_cons_succ]
 refine wpAnyH_take (i:=17) (v:=undef) (oi:={ dst:=some 29,op:=Op.move (Operand.tmp 28),type:=4,pos := "lens.go:97",after := #[{ on:=16,ground:=Ground.data },{ on:=13,ground:=Ground.chain },{ on:=13,ground:=Ground.guard }],guard:=some (13,false) }) rfl (by kernel_rfl) (by kernel_rfl) (by kernel_rfl) (fun _ _ _ h=>h) (Or.inr ⟨by rfl,rfl⟩) hHeld ?_
 try simp only [Act.put,List.setIfInBounds_toArray,List.set_cons_zero,List.set_cons_succ]
 refine wpAnyH_take (i:=18) (v:=undef) (oi:={ dst:=some 30,op:=Op.load 88 (Operand.tmp 1),type:=88,pos := "lens.go:97",after := #[{ on:=17,ground:=Ground.guard }],guard:=some (17,true) }) rfl (by kernel_rfl) (by kernel_rfl) (by kernel_rfl) (fun _ _ _ h=>h) (Or.inr ⟨by rfl,rfl⟩) hHeld ?_
 try simp only [Act.put,List.setIfInBounds_toArray,List.set_cons_zero,List.set_cons_succ]
 refine wpAnyH_take (i:=19) (v:=undef) (oi:={ dst:=some 31,op:=Op.call { callee:=Callee.builtin Builtin.len,args := #[Operand.tmp 30],argTypes := #[88] },type:=3,pos := "lens.go:97",after := #[{ on:=18,ground:=Ground.data },{ on:=17,ground:=Ground.guard }],guard:=some (17,true) }) rfl (by kernel_rfl) (by kernel_rfl) (by kernel_rfl) (fun _ _ _ h=>h) (Or.inr ⟨by rfl,rfl⟩) hHeld ?_
 try simp only [Act.put,List.setIfInBounds_toArray,List.set_cons_zero,List.set_cons_succ]
 refine wpAnyH_take (i:=20) (v:=undef) (oi:={ dst:=some 32,op:=Op.binOp BinOp.eql 3 (Operand.tmp 31) (Operand.const (Value.int IntKind.i64 0)) 3,type:=4,pos := "lens.go:97",after := #[{ on:=19,ground:=Ground.data },{ on:=17,ground:=Ground.guard }],guard:=some (17,true) }) rfl (by kernel_rfl) (by kernel_rfl) (by kernel_rfl) (fun _ _ _ h=>h) (Or.inr ⟨by rfl,rfl⟩) hHeld ?_
 try simp only [Act.put,List.setIfInBounds_toArray,List.set_cons_zero,List.set_cons_succ]
 refine wpAnyH_take (i:=21) (v:=undef) (oi:={ dst:=some 33,op:=Op.pick (Operand.tmp 29) (Operand.tmp 32) (Operand.const (Value.bool false)),type:=4,pos := "lens.go:97",after := #[{ on:=17,ground:=Ground.data },{ on:=20,ground:=Ground.data },{ on:=13,ground:=Ground.guard }],guard:=some (13,false) }) rfl (by kernel_rfl) (by kernel_rfl) (by kernel_rfl) (fun _ _ _ h=>h) (Or.inr ⟨by rfl,rfl⟩) hHeld ?_
 try simp only [Act.put,List.setIfInBounds_toArray,List.set_cons_zero,List.set_cons_succ]
 refine wpAnyH_take (i:=22) (v := .bool true) (oi:={ dst:=some 34,op:=Op.pick (Operand.tmp 25) (Operand.const (Value.bool true)) (Operand.tmp 33),type:=4,pos := "lens.go:97",after := #[{ on:=13,ground:=Ground.data },{ on:=21,ground:=Ground.data }],guard:=none }) rfl (by kernel_rfl) (by kernel_rfl) (by kernel_rfl) (fun _ _ _ h=>h) (Or.inl ⟨by rfl,fun W hSw=>by obtain ⟨hs1,hs2,hs3⟩:=hSw;go_simp⟩) hHeld ?_
 try simp only [Act.put,List.setIfInBounds_toArray,List.set_cons_zero,List.set_cons_succ]
 refine wpAnyH_take (i:=23) (v := .bool true) (oi:={ dst:=some 35,op:=Op.move (Operand.tmp 34),type:=4,pos := "lens.go:97",after := #[{ on:=22,ground:=Ground.data },{ on:=17,ground:=Ground.chain }],guard:=none }) rfl (by kernel_rfl) (by kernel_rfl) (by kernel_rfl) (fun _ _ _ h=>h) (Or.inl ⟨by rfl,fun W hSw=>by obtain ⟨hs1,hs2,hs3⟩:=hSw;go_simp⟩) hHeld ?_
 try simp only [Act.put,List.setIfInBounds_toArray,List.set_cons_zero,List.set_cons_succ]
 refine wpAnyH_take (i:=24) (v:=undef) (oi:={ dst:=some 36,op:=Op.move (Operand.tmp 4),type:=3,pos := "lens.go:97",after := #[{ on:=23,ground:=Ground.guard }],guard:=some (23,false) }) rfl (by kernel_rfl) (by kernel_rfl) (by kernel_rfl) (fun _ _ _ h=>h) (Or.inr ⟨by rfl,rfl⟩) hHeld ?_
 try simp only [Act.put,List.setIfInBounds_toArray,List.set_cons_zero,List.set_cons_succ]
 refine wpAnyH_take (i:=25) (v:=undef) (oi:={ dst:=some 37,op:=Op.fieldAddr 252 (Operand.tmp 2) 1,type:=0,pos := "lens.go:97",after := #[{ on:=23,ground:=Ground.guard }],guard:=some (23,false) }) rfl (by kernel_rfl) (by kernel_rfl) (by kernel_rfl) (fun _ _ _ h=>h) (Or.inr ⟨by rfl,rfl⟩) hHeld ?_
 try simp only [Act.put,List.setIfInBounds_toArray,List.set_cons_zero,List.set_cons_succ]
 refine wpAnyH_take (i:=26) (v:=undef) (oi:={ dst:=some 38,op:=Op.load 3 (Operand.tmp 37),type:=3,pos := "lens.go:97",after := #[{ on:=25,ground:=Ground.data },{ on:=23,ground:=Ground.guard }],guard:=some (23,false) }) rfl (by kernel_rfl) (by kernel_rfl) (by kernel_rfl) (fun _ _ _ h=>h) (Or.inr ⟨by rfl,rfl⟩) hHeld ?_
 try simp only [Act.put,List.setIfInBounds_toArray,List.set_cons_zero,List.set_cons_succ]
 refine wpAnyH_take (i:=27) (v:=undef) (oi:={ dst:=some 39,op:=Op.binOp BinOp.add 3 (Operand.tmp 36) (Operand.tmp 38) 3,type:=3,pos := "lens.go:97",after := #[{ on:=24,ground:=Ground.data },{ on:=26,ground:=Ground.data },{ on:=23,ground:=Ground.guard }],guard:=some (23,false) }) rfl (by kernel_rfl) (by kernel_rfl) (by kernel_rfl) (fun _ _ _ h=>h) (Or.inr ⟨by rfl,rfl⟩) hHeld ?_
 try simp only [Act.put,List.setIfInBounds_toArray,List.set_cons_zero,List.set_cons_succ]
 refine wpAnyH_take (i:=28) (v:=undef) (oi:={ dst:=some 40,op:=Op.load 88 (Operand.tmp 1),type:=88,pos := "lens.go:97",after := #[{ on:=23,ground:=Ground.guard }],guard:=some (23,false) }) rfl (by kernel_rfl) (by kernel_rfl) (by kernel_rfl) (fun _ _ _ h=>h) (Or.inr ⟨by rfl,rfl⟩) hHeld ?_
 try simp only [Act.put,List.setIfInBounds_toArray,List.set_cons_zero,List.set_cons_succ]
 refine wpAnyH_take (i:=29) (v:=undef) (oi:={ dst:=some 41,op:=Op.call { callee:=Callee.builtin Builtin.len,args := #[Operand.tmp 40],argTypes := #[88] },type:=3,pos := "lens.go:97",after := #[{ on:=28,ground:=Ground.data },{ on:=23,ground:=Ground.guard }],guard:=some (23,false) }) rfl (by kernel_rfl) (by kernel_rfl) (by kernel_rfl) (fun _ _ _ h=>h) (Or.inr ⟨by rfl,rfl⟩) hHeld ?_
 try simp only [Act.put,List.setIfInBounds_toArray,List.set_cons_zero,List.set_cons_succ]
 refine wpAnyH_take (i:=30) (v:=undef) (oi:={ dst:=some 42,op:=Op.binOp BinOp.sub 3 (Operand.const (Value.int IntKind.i64 320)) (Operand.tmp 41) 3,type:=3,pos := "lens.go:97",after := #[{ on:=29,ground:=Ground.data },{ on:=23,ground:=Ground.guard }],guard:=some (23,false) }) rfl (by kernel_rfl) (by kernel_rfl) (by kernel_rfl) (fun _ _ _ h=>h) (Or.inr ⟨by rfl,rfl⟩) hHeld ?_
 try simp only [Act.put,List.setIfInBounds_toArray,List.set_cons_zero,List.set_cons_succ]
 refine wpAnyH_take (i:=31) (v:=undef) (oi:={ dst:=some 43,op:=Op.binOp BinOp.gtr 3 (Operand.tmp 39) (Operand.tmp 42) 3,type:=4,pos := "lens.go:97",after := #[{ on:=27,ground:=Ground.data },{ on:=30,ground:=Ground.data },{ on:=23,ground:=Ground.guard }],guard:=some (23,false) }) rfl (by kernel_rfl) (by kernel_rfl) (by kernel_rfl) (fun _ _ _ h=>h) (Or.inr ⟨by rfl,rfl⟩) hHeld ?_
 try simp only [Act.put,List.setIfInBounds_toArray,List.set_cons_zero,List.set_cons_succ]
 refine wpAnyH_take (i:=32) (v := .bool true) (oi:={ dst:=some 44,op:=Op.pick (Operand.tmp 35) (Operand.const (Value.bool true)) (Operand.tmp 43),type:=4,pos := "lens.go:97",after := #[{ on:=23,ground:=Ground.data },{ on:=31,ground:=Ground.data }],guard:=none }) rfl (by kernel_rfl) (by kernel_rfl) (by kernel_rfl) (fun _ _ _ h=>h) (Or.inl ⟨by rfl,fun W hSw=>by obtain ⟨hs1,hs2,hs3⟩:=hSw;go_simp⟩) hHeld ?_
 try simp only [Act.put,List.setIfInBounds_toArray,List.set_cons_zero,List.set_cons_succ]
 refine wpAnyH_take (i:=33) (v := .bool true) (oi:={ dst:=some 3,op:=Op.assign (Operand.tmp 44),type:=4,pos := "lens.go:97",after := #[{ on:=32,ground:=Ground.data },{ on:=23,ground:=Ground.chain },{ on:=0,ground:=Ground.phase },{ on:=1,ground:=Ground.phase },{ on:=2,ground:=Ground.phase },{ on:=3,ground:=Ground.phase },{ on:=4,ground:=Ground.phase },{ on:=5,ground:=Ground.phase },{ on:=6,ground:=Ground.phase },{ on:=7,ground:=Ground.phase },{ on:=8,ground:=Ground.phase },{ on:=9,ground:=Ground.phase },{ on:=10,ground:=Ground.phase },{ on:=11,ground:=Ground.phase },{ on:=12,ground:=Ground.phase },{ on:=13,ground:=Ground.phase },{ on:=14,ground:=Ground.phase },{ on:=15,ground:=Ground.phase },{ on:=16,ground:=Ground.phase },{ on:=17,ground:=Ground.phase },{ on:=18,ground:=Ground.phase },{ on:=19,ground:=Ground.phase },{ on:=20,ground:=Ground.phase },{ on:=21,ground:=Ground.phase },{ on:=22,ground:=Ground.phase },{ on:=23,ground:=Ground.phase },{ on:=24,ground:=Ground.phase },{ on:=25,ground:=Ground.phase },{ on:=26,ground:=Ground.phase },{ on:=27,ground:=Ground.phase },{ on:=28,ground:=Ground.phase },{ on:=29,ground:=Ground.phase },{ on:=30,ground:=Ground.phase },{ on:=31,ground:=Ground.phase },{ on:=32,ground:=Ground.phase }],guard:=none }) rfl (by kernel_rfl) (by kernel_rfl) (by kernel_rfl) (fun _ _ _ h=>h) (Or.inl ⟨by rfl,fun W hSw=>by obtain ⟨hs1,hs2,hs3⟩:=hSw;go_simp⟩) hHeld ?_
 try simp only [Act.put,List.setIfInBounds_toArray,List.set_cons_zero,List.set_cons_succ]
 refine wpAnyH_done (by kernel_rfl) ?_ _
 clear hHeld
 go_wp2
 go_ret
 exact ⟨rfl,HF.out _ HB1.out⟩
set_option maxHeartbeats 4000000 in
set_option maxRecDepth 100000 in
theorem wr_b (g n c l m d:Nat) (ao:Option Addr) (s x u y:Int) (w:World) (hg:w.cell? ⟨g,0,none⟩=some (.slice ao n c)) (hl:spl s=l) (hm:spm s=m) (_e1:IntKind.i64.wrap ((m:Int)-l)=d)
  (_e2:IntKind.i64.wrap ((l:Int)+x)=u) (_e3:IntKind.i64.wrap ((320:Int)-n)=y) (h1:¬Bad 0 18 s) (h2:Bad 0 d x) :
  Calls Tryz.prog 192 #[.agg #[.int .i64 s,.int .i64 x],.pointer (some ⟨g,0,none⟩)] w (Wrote w true):=by
 have HGL:=Lib.hid (World.block_lt_of_cell? w _ hg)
 have HG:=Lib.hid hg
 have HSP:=Lib.hid (And.intro hl hm)
 have H1:=Lib.hid h1
 have H2:=Lib.hid h2
 clear h1 h2
 clear hl hm hg
 obtain ⟨B,hB⟩:∃ B,B=w.heap.size:=⟨_,rfl⟩
 have HC:Hid (∀ W,Below (B+1) (w.alloc (.cells #[.int .i64 s,.int .i64 x] 252)) W→W.cell? ⟨B,0,none⟩=some (.int .i64 s)∧W.cell? ⟨B,1,none⟩=some (.int .i64 x)∧W.cell? ⟨g,0,none⟩=some (.slice ao n c)):=Lib.hid fun W hb=>by
  subst hB
  refine ⟨(hb.cell (p:=⟨_,0,none⟩) (Nat.lt_succ_self _)).trans ?_,(hb.cell (p:=⟨_,1,none⟩) (Nat.lt_succ_self _)).trans ?_,(hb.cell (p:=⟨g,0,none⟩) (Nat.lt_succ_of_lt HGL.out)).trans ?_⟩
  ·simp
  ·simp
  ·have h1:g≠w.heap.size:=Nat.ne_of_lt HGL.out
   have h2:=HG.out
   simp [World.cell?_alloc_old,h1,h2]
 have HB0:Hid (Below (B+1) (w.alloc (.cells #[.int .i64 s,.int .i64 x] 252)) (w.alloc (.cells #[.int .i64 s,.int .i64 x] 252)).drew):=Lib.hid (by
  subst hB
  have h:=(Below.refl (w.alloc (.cells #[.int .i64 s,.int .i64 x] 252)).heap.size (w.alloc (.cells #[.int .i64 s,.int .i64 x] 252))).drew
  simpa using h)
 have HF:Hid (∀ W,Below (B+1) (w.alloc (.cells #[.int .i64 s,.int .i64 x] 252)) W→Below w.heap.size w W):=Lib.hid fun W hb=>by
  subst hB
  exact ((Below.refl _ w).alloc (Nat.le_refl _) _).trans (hb.mono (Nat.le_succ _))
 have HSZ:Hid (B+1≤(w.alloc (.cells #[.int .i64 s,.int .i64 x] 252)).heap.size):=Lib.hid (by subst hB;simp)
 go_enter Tryz.func192,Tryz.ntmps192
 go_upto_region 2 with (go_at_call 193;refine (span_any _ _).mono ?_;rintro e w5 ⟨rfl,rfl⟩;rw [HSP.out.1,HSP.out.2])
 rw [←hB]
 clear hB
 generalize (w.alloc (.cells #[.int .i64 s,.int .i64 x] 252))=w3 at *
 refine wp_region_held_drew (S:=fun W=>W.cell? ⟨B,0,none⟩=some (.int .i64 s)∧W.cell? ⟨B,1,none⟩=some (.int .i64 x)∧W.cell? ⟨g,0,none⟩=some (.slice ao n c)) (by kernel_rfl) (HC.out _ HB0.out) (fun hHeld=>?_)
 refine wpAnyH_take (i:=1) (v := .pointer (some ⟨B,0,none⟩)) (oi:={ dst:=some 13,op:=Op.fieldAddr 252 (Operand.tmp 2) 0,type:=0,pos := "lens.go:97",after := #[],guard:=none }) rfl (by kernel_rfl) (by kernel_rfl) (by kernel_rfl) (fun _ _ _ h=>h) (Or.inl ⟨by rfl,fun W hSw=>by obtain ⟨hs1,hs2,hs3⟩:=hSw;go_simp⟩) hHeld ?_
 try simp only [Act.put,List.setIfInBounds_toArray,List.set_cons_zero,List.set_cons_succ]
 refine wpAnyH_take (i:=2) (v := .int .i64 s) (oi:={ dst:=some 14,op:=Op.load 3 (Operand.tmp 13),type:=3,pos := "lens.go:97",after := #[{ on:=1,ground:=Ground.data }],guard:=none }) rfl (by kernel_rfl) (by kernel_rfl) (by kernel_rfl) (fun _ _ _ h=>h) (Or.inl ⟨by rfl,fun W hSw=>by obtain ⟨hs1,hs2,hs3⟩:=hSw;go_simp⟩) hHeld ?_
 try simp only [Act.put,List.setIfInBounds_toArray,List.set_cons_zero,List.set_cons_succ]
 refine wpAnyH_ready (rs:=[0]) (by kernel_rfl) (by simp) ?_
 refine AllReadyH.cons (o:={ dst:=some 12,op:=Op.call { callee:=Callee.value (Operand.func 194),args := #[Operand.const (Value.int IntKind.i64 0),Operand.const (Value.int IntKind.i64 18)],argTypes := #[3,3] },type:=174,pos := "lens.go:97",after := #[],guard:=none }) rfl (fun K hK=>?_) AllReadyH.nil
 refine step_call (by rfl) _ _ (run_call2 (.func 194) (.const (.int .i64 0)) (.const (.int .i64 18)) _ 194 #[] (.int .i64 0) (.int .i64 18) (fun _=>enter21 _ _) rfl rfl rfl rfl) (fun v W=>∃ p q,v=fnOut p q∧Kept W p q 0 18∧Below (B+1) w3 W) ?_ ?_
 ·refine (outside_any 0 18 _).mono ?_
  rintro e w1 ⟨p,q,rfl,hk,hb,hp,hq⟩
  exact ⟨_,rfl,p,q,rfl,hk,HB0.out.trans (hb.mono (Nat.le_trans HSZ.out HB0.out.size))⟩
 rintro v1 w1 ⟨p1,q1,rfl,hk,hb⟩
 have HK1:=Lib.hid hk
 have HB1:=Lib.hid hb
 clear hk hb
 refine hK.out _ _ (HC.out _ HB1.out) (fun hHeld=>?_)
 clear hK K
 try simp only [Act.put,List.setIfInBounds_toArray,List.set_cons_zero,List.set_cons_succ]
 refine wpAnyH_ready (rs:=[3]) (by kernel_rfl) (by simp) ?_
 refine AllReadyH.cons (o:={ dst:=some 15,op:=Op.call { callee:=Callee.value (Operand.tmp 12),args := #[Operand.tmp 14],argTypes := #[3] },type:=4,pos := "lens.go:97",after := #[{ on:=0,ground:=Ground.data },{ on:=2,ground:=Ground.data },{ on:=0,ground:=Ground.chain }],guard:=none }) rfl (fun K hK=>?_) AllReadyH.nil
 refine step_call (by rfl) _ _ (run_call1 (.tmp 12) (.tmp 14) _ 197 #[.pointer (some ⟨p1,0,none⟩),.pointer (some ⟨q1,0,none⟩)] (.int .i64 s) (fun _=>enter35 _ _) rfl rfl rfl) (fun v W=>v = .bool false∧W=w1) ?_ ?_
 ·refine (bad_no p1 q1 0 18 s _ HK1.out H1.out).mono ?_
  rintro e W ⟨rfl,rfl⟩
  exact ⟨_,rfl,rfl,rfl⟩
 rintro v W ⟨rfl,rfl⟩
 refine hK.out _ _ (HC.out _ HB1.out) (fun hHeld=>?_)
 clear hK K
 try simp only [Act.put,List.setIfInBounds_toArray,List.set_cons_zero,List.set_cons_succ]
 refine wpAnyH_take (i:=4) (v := .bool false) (oi:={ dst:=some 16,op:=Op.move (Operand.tmp 15),type:=4,pos := "lens.go:97",after := #[{ on:=3,ground:=Ground.data },{ on:=3,ground:=Ground.chain }],guard:=none }) rfl (by kernel_rfl) (by kernel_rfl) (by kernel_rfl) (fun _ _ _ h=>h) (Or.inl ⟨by rfl,fun W hSw=>by obtain ⟨hs1,hs2,hs3⟩:=hSw;go_simp⟩) hHeld ?_
 try simp only [Act.put,List.setIfInBounds_toArray,List.set_cons_zero,List.set_cons_succ]
 refine wpAnyH_take (i:=5) (v := .int .i64 m) (oi:={ dst:=some 17,op:=Op.move (Operand.tmp 5),type:=3,pos := "lens.go:97",after := #[{ on:=4,ground:=Ground.guard }],guard:=some (4,false) }) rfl (by kernel_rfl) (by kernel_rfl) (by kernel_rfl) (fun _ _ _ h=>h) (Or.inl ⟨by rfl,fun W hSw=>by obtain ⟨hs1,hs2,hs3⟩:=hSw;go_simp⟩) hHeld ?_
 try simp only [Act.put,List.setIfInBounds_toArray,List.set_cons_zero,List.set_cons_succ]
 refine wpAnyH_take (i:=6) (v := .int .i64 l) (oi:={ dst:=some 18,op:=Op.move (Operand.tmp 4),type:=3,pos := "lens.go:97",after := #[{ on:=4,ground:=Ground.guard }],guard:=some (4,false) }) rfl (by kernel_rfl) (by kernel_rfl) (by kernel_rfl) (fun _ _ _ h=>h) (Or.inl ⟨by rfl,fun W hSw=>by obtain ⟨hs1,hs2,hs3⟩:=hSw;go_simp⟩) hHeld ?_
 try simp only [Act.put,List.setIfInBounds_toArray,List.set_cons_zero,List.set_cons_succ]
 refine wpAnyH_take (i:=7) (v := .int .i64 d) (oi:={ dst:=some 19,op:=Op.binOp BinOp.sub 3 (Operand.tmp 17) (Operand.tmp 18) 3,type:=3,pos := "lens.go:97",after := #[{ on:=5,ground:=Ground.data },{ on:=6,ground:=Ground.data },{ on:=4,ground:=Ground.guard }],guard:=some (4,false) }) rfl (by kernel_rfl) (by kernel_rfl) (by kernel_rfl) (fun _ _ _ h=>h) (Or.inl ⟨by rfl,fun W hSw=>by obtain ⟨hs1,hs2,hs3⟩:=hSw;go_simp⟩) hHeld ?_
 try simp only [Act.put,List.setIfInBounds_toArray,List.set_cons_zero,List.set_cons_succ]
 refine wpAnyH_take (i:=9) (v := .pointer (some ⟨B,1,none⟩)) (oi:={ dst:=some 21,op:=Op.fieldAddr 252 (Operand.tmp 2) 1,type:=0,pos := "lens.go:97",after := #[{ on:=4,ground:=Ground.guard }],guard:=some (4,false) }) rfl (by kernel_rfl) (by kernel_rfl) (by kernel_rfl) (fun _ _ _ h=>h) (Or.inl ⟨by rfl,fun W hSw=>by obtain ⟨hs1,hs2,hs3⟩:=hSw;go_simp⟩) hHeld ?_
 try simp only [Act.put,List.setIfInBounds_toArray,List.set_cons_zero,List.set_cons_succ]
 refine wpAnyH_take (i:=10) (v := .int .i64 x) (oi:={ dst:=some 22,op:=Op.load 3 (Operand.tmp 21),type:=3,pos := "lens.go:97",after := #[{ on:=9,ground:=Ground.data },{ on:=4,ground:=Ground.guard }],guard:=some (4,false) }) rfl (by kernel_rfl) (by kernel_rfl) (by kernel_rfl) (fun _ _ _ h=>h) (Or.inl ⟨by rfl,fun W hSw=>by obtain ⟨hs1,hs2,hs3⟩:=hSw;go_simp⟩) hHeld ?_
 try simp only [Act.put,List.setIfInBounds_toArray,List.set_cons_zero,List.set_cons_succ]
 refine wpAnyH_ready (rs:=[8]) (by kernel_rfl) (by simp) ?_
 refine AllReadyH.cons (o:={ dst:=some 20,op:=Op.call { callee:=Callee.value (Operand.func 194),args := #[Operand.const (Value.int IntKind.i64 0),Operand.tmp 19],argTypes := #[3,3] },type:=174,pos := "lens.go:97",after := #[{ on:=7,ground:=Ground.data },{ on:=4,ground:=Ground.chain },{ on:=4,ground:=Ground.guard }],guard:=some (4,false) }) rfl (fun K hK=>?_) AllReadyH.nil
 refine step_call (by rfl) _ _ (run_call2 (.func 194) (.const (.int .i64 0)) (.tmp 19) _ 194 #[] (.int .i64 0) (.int .i64 d) (fun _=>enter21 _ _) rfl rfl rfl rfl) (fun v W=>∃ p q,v=fnOut p q∧Kept W p q 0 d∧Below (B+1) w3 W) ?_ ?_
 ·refine (outside_any 0 d _).mono ?_
  rintro e w2 ⟨p,q,rfl,hk,hb,hp,hq⟩
  exact ⟨_,rfl,p,q,rfl,hk,HB1.out.trans (hb.mono (Nat.le_trans HSZ.out HB1.out.size))⟩
 rintro v2 w2 ⟨p2,q2,rfl,hk,hb⟩
 have HK2:=Lib.hid hk
 have HB2:=Lib.hid hb
 clear hk hb
 refine hK.out _ _ (HC.out _ HB2.out) (fun hHeld=>?_)
 clear hK K
 try simp only [Act.put,List.setIfInBounds_toArray,List.set_cons_zero,List.set_cons_succ]
 refine wpAnyH_ready (rs:=[11]) (by kernel_rfl) (by simp) ?_
 refine AllReadyH.cons (o:={ dst:=some 23,op:=Op.call { callee:=Callee.value (Operand.tmp 20),args := #[Operand.tmp 22],argTypes := #[3] },type:=4,pos := "lens.go:97",after := #[{ on:=8,ground:=Ground.data },{ on:=10,ground:=Ground.data },{ on:=8,ground:=Ground.chain },{ on:=4,ground:=Ground.guard }],guard:=some (4,false) }) rfl (fun K hK=>?_) AllReadyH.nil
 refine step_call (by rfl) _ _ (run_call1 (.tmp 20) (.tmp 22) _ 197 #[.pointer (some ⟨p2,0,none⟩),.pointer (some ⟨q2,0,none⟩)] (.int .i64 x) (fun _=>enter35 _ _) rfl rfl rfl) (fun v W=>v = .bool true∧W=w2) ?_ ?_
 ·refine (bad_yes p2 q2 0 d x _ HK2.out H2.out).mono ?_
  rintro e W ⟨rfl,rfl⟩
  exact ⟨_,rfl,rfl,rfl⟩
 rintro v W ⟨rfl,rfl⟩
 refine hK.out _ _ (HC.out _ HB2.out) (fun hHeld=>?_)
 clear hK K
 try simp only [Act.put,List.setIfInBounds_toArray,List.set_cons_zero,List.set_cons_succ]
 refine wpAnyH_take (i:=12) (v := .bool true) (oi:={ dst:=some 24,op:=Op.pick (Operand.tmp 16) (Operand.const (Value.bool true)) (Operand.tmp 23),type:=4,pos := "lens.go:97",after := #[{ on:=4,ground:=Ground.data },{ on:=11,ground:=Ground.data }],guard:=none }) rfl (by kernel_rfl) (by kernel_rfl) (by kernel_rfl) (fun _ _ _ h=>h) (Or.inl ⟨by rfl,fun W hSw=>by obtain ⟨hs1,hs2,hs3⟩:=hSw;go_simp⟩) hHeld ?_
 try simp only [Act.put,List.setIfInBounds_toArray,List.set_cons_zero,List.set_cons_succ]
 refine wpAnyH_take (i:=13) (v := .bool true) (oi:={ dst:=some 25,op:=Op.move (Operand.tmp 24),type:=4,pos := "lens.go:97",after := #[{ on:=12,ground:=Ground.data },{ on:=11,ground:=Ground.chain }],guard:=none }) rfl (by kernel_rfl) (by kernel_rfl) (by kernel_rfl) (fun _ _ _ h=>h) (Or.inl ⟨by rfl,fun W hSw=>by obtain ⟨hs1,hs2,hs3⟩:=hSw;go_simp⟩) hHeld ?_
 try simp only [Act.put,List.setIfInBounds_toArray,List.set_cons_zero,List.set_cons_succ]
 refine wpAnyH_take (i:=14) (v:=undef) (oi:={ dst:=some 26,op:=Op.fieldAddr 252 (Operand.tmp 2) 0,type:=0,pos := "lens.go:97",after := #[{ on:=13,ground:=Ground.guard }],guard:=some (13,false) }) rfl (by kernel_rfl) (by kernel_rfl) (by kernel_rfl) (fun _ _ _ h=>h) (Or.inr ⟨by rfl,rfl⟩) hHeld ?_
 try simp only [Act.put,List.setIfInBounds_toArray,List.set_cons_zero,List.set_cons_succ]
 refine wpAnyH_take (i:=15) (v:=undef) (oi:={ dst:=some 27,op:=Op.load 3 (Operand.tmp 26),type:=3,pos := "lens.go:97",after := #[{ on:=14,ground:=Ground.data },{ on:=13,ground:=Ground.guard }],guard:=some (13,false) }) rfl (by kernel_rfl) (by kernel_rfl) (by kernel_rfl) (fun _ _ _ h=>h) (Or.inr ⟨by rfl,rfl⟩) hHeld ?_
 try simp only [Act.put,List.setIfInBounds_toArray,List.set_cons_zero,List.set_cons_succ]
 refine wpAnyH_take (i:=16) (v:=undef) (oi:={ dst:=some 28,op:=Op.binOp BinOp.eql 3 (Operand.tmp 27) (Operand.const (Value.int IntKind.i64 16)) 3,type:=4,pos := "lens.go:97",after := #[{ on:=15,ground:=Ground.data },{ on:=13,ground:=Ground.guard }],guard:=some (13,false) }) rfl (by kernel_rfl) (by kernel_rfl) (by kernel_rfl) (fun _ _ _ h=>h) (Or.inr ⟨by rfl,rfl⟩) hHeld ?_
 try simp only [Act.put,List.setIfInBounds_toArray,List.set_cons_zero,List.set_cons_succ]
 refine wpAnyH_take (i:=17) (v:=undef) (oi:={ dst:=some 29,op:=Op.move (Operand.tmp 28),type:=4,pos := "lens.go:97",after := #[{ on:=16,ground:=Ground.data },{ on:=13,ground:=Ground.chain },{ on:=13,ground:=Ground.guard }],guard:=some (13,false) }) rfl (by kernel_rfl) (by kernel_rfl) (by kernel_rfl) (fun _ _ _ h=>h) (Or.inr ⟨by rfl,rfl⟩) hHeld ?_
 try simp only [Act.put,List.setIfInBounds_toArray,List.set_cons_zero,List.set_cons_succ]
 refine wpAnyH_take (i:=18) (v:=undef) (oi:={ dst:=some 30,op:=Op.load 88 (Operand.tmp 1),type:=88,pos := "lens.go:97",after := #[{ on:=17,ground:=Ground.guard }],guard:=some (17,true) }) rfl (by kernel_rfl) (by kernel_rfl) (by kernel_rfl) (fun _ _ _ h=>h) (Or.inr ⟨by rfl,rfl⟩) hHeld ?_
 try simp only [Act.put,List.setIfInBounds_toArray,List.set_cons_zero,List.set_cons_succ]
 refine wpAnyH_take (i:=19) (v:=undef) (oi:={ dst:=some 31,op:=Op.call { callee:=Callee.builtin Builtin.len,args := #[Operand.tmp 30],argTypes := #[88] },type:=3,pos := "lens.go:97",after := #[{ on:=18,ground:=Ground.data },{ on:=17,ground:=Ground.guard }],guard:=some (17,true) }) rfl (by kernel_rfl) (by kernel_rfl) (by kernel_rfl) (fun _ _ _ h=>h) (Or.inr ⟨by rfl,rfl⟩) hHeld ?_
 try simp only [Act.put,List.setIfInBounds_toArray,List.set_cons_zero,List.set_cons_succ]
 refine wpAnyH_take (i:=20) (v:=undef) (oi:={ dst:=some 32,op:=Op.binOp BinOp.eql 3 (Operand.tmp 31) (Operand.const (Value.int IntKind.i64 0)) 3,type:=4,pos := "lens.go:97",after := #[{ on:=19,ground:=Ground.data },{ on:=17,ground:=Ground.guard }],guard:=some (17,true) }) rfl (by kernel_rfl) (by kernel_rfl) (by kernel_rfl) (fun _ _ _ h=>h) (Or.inr ⟨by rfl,rfl⟩) hHeld ?_
 try simp only [Act.put,List.setIfInBounds_toArray,List.set_cons_zero,List.set_cons_succ]
 refine wpAnyH_take (i:=21) (v:=undef) (oi:={ dst:=some 33,op:=Op.pick (Operand.tmp 29) (Operand.tmp 32) (Operand.const (Value.bool false)),type:=4,pos := "lens.go:97",after := #[{ on:=17,ground:=Ground.data },{ on:=20,ground:=Ground.data },{ on:=13,ground:=Ground.guard }],guard:=some (13,false) }) rfl (by kernel_rfl) (by kernel_rfl) (by kernel_rfl) (fun _ _ _ h=>h) (Or.inr ⟨by rfl,rfl⟩) hHeld ?_
 try simp only [Act.put,List.setIfInBounds_toArray,List.set_cons_zero,List.set_cons_succ]
 refine wpAnyH_take (i:=22) (v := .bool true) (oi:={ dst:=some 34,op:=Op.pick (Operand.tmp 25) (Operand.const (Value.bool true)) (Operand.tmp 33),type:=4,pos := "lens.go:97",after := #[{ on:=13,ground:=Ground.data },{ on:=21,ground:=Ground.data }],guard:=none }) rfl (by kernel_rfl) (by kernel_rfl) (by kernel_rfl) (fun _ _ _ h=>h) (Or.inl ⟨by rfl,fun W hSw=>by obtain ⟨hs1,hs2,hs3⟩:=hSw;go_simp⟩) hHeld ?_
 try simp only [Act.put,List.setIfInBounds_toArray,List.set_cons_zero,List.set_cons_succ]
 refine wpAnyH_take (i:=23) (v := .bool true) (oi:={ dst:=some 35,op:=Op.move (Operand.tmp 34),type:=4,pos := "lens.go:97",after := #[{ on:=22,ground:=Ground.data },{ on:=17,ground:=Ground.chain }],guard:=none }) rfl (by kernel_rfl) (by kernel_rfl) (by kernel_rfl) (fun _ _ _ h=>h) (Or.inl ⟨by rfl,fun W hSw=>by obtain ⟨hs1,hs2,hs3⟩:=hSw;go_simp⟩) hHeld ?_
 try simp only [Act.put,List.setIfInBounds_toArray,List.set_cons_zero,List.set_cons_succ]
 refine wpAnyH_take (i:=24) (v:=undef) (oi:={ dst:=some 36,op:=Op.move (Operand.tmp 4),type:=3,pos := "lens.go:97",after := #[{ on:=23,ground:=Ground.guard }],guard:=some (23,false) }) rfl (by kernel_rfl) (by kernel_rfl) (by kernel_rfl) (fun _ _ _ h=>h) (Or.inr ⟨by rfl,rfl⟩) hHeld ?_
 try simp only [Act.put,List.setIfInBounds_toArray,List.set_cons_zero,List.set_cons_succ]
 refine wpAnyH_take (i:=25) (v:=undef) (oi:={ dst:=some 37,op:=Op.fieldAddr 252 (Operand.tmp 2) 1,type:=0,pos := "lens.go:97",after := #[{ on:=23,ground:=Ground.guard }],guard:=some (23,false) }) rfl (by kernel_rfl) (by kernel_rfl) (by kernel_rfl) (fun _ _ _ h=>h) (Or.inr ⟨by rfl,rfl⟩) hHeld ?_
 try simp only [Act.put,List.setIfInBounds_toArray,List.set_cons_zero,List.set_cons_succ]
 refine wpAnyH_take (i:=26) (v:=undef) (oi:={ dst:=some 38,op:=Op.load 3 (Operand.tmp 37),type:=3,pos := "lens.go:97",after := #[{ on:=25,ground:=Ground.data },{ on:=23,ground:=Ground.guard }],guard:=some (23,false) }) rfl (by kernel_rfl) (by kernel_rfl) (by kernel_rfl) (fun _ _ _ h=>h) (Or.inr ⟨by rfl,rfl⟩) hHeld ?_
 try simp only [Act.put,List.setIfInBounds_toArray,List.set_cons_zero,List.set_cons_succ]
 refine wpAnyH_take (i:=27) (v:=undef) (oi:={ dst:=some 39,op:=Op.binOp BinOp.add 3 (Operand.tmp 36) (Operand.tmp 38) 3,type:=3,pos := "lens.go:97",after := #[{ on:=24,ground:=Ground.data },{ on:=26,ground:=Ground.data },{ on:=23,ground:=Ground.guard }],guard:=some (23,false) }) rfl (by kernel_rfl) (by kernel_rfl) (by kernel_rfl) (fun _ _ _ h=>h) (Or.inr ⟨by rfl,rfl⟩) hHeld ?_
 try simp only [Act.put,List.setIfInBounds_toArray,List.set_cons_zero,List.set_cons_succ]
 refine wpAnyH_take (i:=28) (v:=undef) (oi:={ dst:=some 40,op:=Op.load 88 (Operand.tmp 1),type:=88,pos := "lens.go:97",after := #[{ on:=23,ground:=Ground.guard }],guard:=some (23,false) }) rfl (by kernel_rfl) (by kernel_rfl) (by kernel_rfl) (fun _ _ _ h=>h) (Or.inr ⟨by rfl,rfl⟩) hHeld ?_
 try simp only [Act.put,List.setIfInBounds_toArray,List.set_cons_zero,List.set_cons_succ]
 refine wpAnyH_take (i:=29) (v:=undef) (oi:={ dst:=some 41,op:=Op.call { callee:=Callee.builtin Builtin.len,args := #[Operand.tmp 40],argTypes := #[88] },type:=3,pos := "lens.go:97",after := #[{ on:=28,ground:=Ground.data },{ on:=23,ground:=Ground.guard }],guard:=some (23,false) }) rfl (by kernel_rfl) (by kernel_rfl) (by kernel_rfl) (fun _ _ _ h=>h) (Or.inr ⟨by rfl,rfl⟩) hHeld ?_
 try simp only [Act.put,List.setIfInBounds_toArray,List.set_cons_zero,List.set_cons_succ]
 refine wpAnyH_take (i:=30) (v:=undef) (oi:={ dst:=some 42,op:=Op.binOp BinOp.sub 3 (Operand.const (Value.int IntKind.i64 320)) (Operand.tmp 41) 3,type:=3,pos := "lens.go:97",after := #[{ on:=29,ground:=Ground.data },{ on:=23,ground:=Ground.guard }],guard:=some (23,false) }) rfl (by kernel_rfl) (by kernel_rfl) (by kernel_rfl) (fun _ _ _ h=>h) (Or.inr ⟨by rfl,rfl⟩) hHeld ?_
 try simp only [Act.put,List.setIfInBounds_toArray,List.set_cons_zero,List.set_cons_succ]
 refine wpAnyH_take (i:=31) (v:=undef) (oi:={ dst:=some 43,op:=Op.binOp BinOp.gtr 3 (Operand.tmp 39) (Operand.tmp 42) 3,type:=4,pos := "lens.go:97",after := #[{ on:=27,ground:=Ground.data },{ on:=30,ground:=Ground.data },{ on:=23,ground:=Ground.guard }],guard:=some (23,false) }) rfl (by kernel_rfl) (by kernel_rfl) (by kernel_rfl) (fun _ _ _ h=>h) (Or.inr ⟨by rfl,rfl⟩) hHeld ?_
 try simp only [Act.put,List.setIfInBounds_toArray,List.set_cons_zero,List.set_cons_succ]
 refine wpAnyH_take (i:=32) (v := .bool true) (oi:={ dst:=some 44,op:=Op.pick (Operand.tmp 35) (Operand.const (Value.bool true)) (Operand.tmp 43),type:=4,pos := "lens.go:97",after := #[{ on:=23,ground:=Ground.data },{ on:=31,ground:=Ground.data }],guard:=none }) rfl (by kernel_rfl) (by kernel_rfl) (by kernel_rfl) (fun _ _ _ h=>h) (Or.inl ⟨by rfl,fun W hSw=>by obtain ⟨hs1,hs2,hs3⟩:=hSw;go_simp⟩) hHeld ?_
 try simp only [Act.put,List.setIfInBounds_toArray,List.set_cons_zero,List.set_cons_succ]
 refine wpAnyH_take (i:=33) (v := .bool true) (oi:={ dst:=some 3,op:=Op.assign (Operand.tmp 44),type:=4,pos := "lens.go:97",after := #[{ on:=32,ground:=Ground.data },{ on:=23,ground:=Ground.chain },{ on:=0,ground:=Ground.phase },{ on:=1,ground:=Ground.phase },{ on:=2,ground:=Ground.phase },{ on:=3,ground:=Ground.phase },{ on:=4,ground:=Ground.phase },{ on:=5,ground:=Ground.phase },{ on:=6,ground:=Ground.phase },{ on:=7,ground:=Ground.phase },{ on:=8,ground:=Ground.phase },{ on:=9,ground:=Ground.phase },{ on:=10,ground:=Ground.phase },{ on:=11,ground:=Ground.phase },{ on:=12,ground:=Ground.phase },{ on:=13,ground:=Ground.phase },{ on:=14,ground:=Ground.phase },{ on:=15,ground:=Ground.phase },{ on:=16,ground:=Ground.phase },{ on:=17,ground:=Ground.phase },{ on:=18,ground:=Ground.phase },{ on:=19,ground:=Ground.phase },{ on:=20,ground:=Ground.phase },{ on:=21,ground:=Ground.phase },{ on:=22,ground:=Ground.phase },{ on:=23,ground:=Ground.phase },{ on:=24,ground:=Ground.phase },{ on:=25,ground:=Ground.phase },{ on:=26,ground:=Ground.phase },{ on:=27,ground:=Ground.phase },{ on:=28,ground:=Ground.phase },{ on:=29,ground:=Ground.phase },{ on:=30,ground:=Ground.phase },{ on:=31,ground:=Ground.phase },{ on:=32,ground:=Ground.phase }],guard:=none }) rfl (by kernel_rfl) (by kernel_rfl) (by kernel_rfl) (fun _ _ _ h=>h) (Or.inl ⟨by rfl,fun W hSw=>by obtain ⟨hs1,hs2,hs3⟩:=hSw;go_simp⟩) hHeld ?_
 try simp only [Act.put,List.setIfInBounds_toArray,List.set_cons_zero,List.set_cons_succ]
 refine wpAnyH_done (by kernel_rfl) ?_ _
 clear hHeld
 go_wp2
 go_ret
 exact ⟨rfl,HF.out _ HB2.out⟩
set_option maxHeartbeats 4000000 in
set_option maxRecDepth 100000 in
theorem wr_c (g n c l m d:Nat) (ao:Option Addr) (s x u y:Int) (w:World) (hg:w.cell? ⟨g,0,none⟩=some (.slice ao n c)) (hl:spl s=l) (hm:spm s=m) (_e1:IntKind.i64.wrap ((m:Int)-l)=d)
  (_e2:IntKind.i64.wrap ((l:Int)+x)=u) (_e3:IntKind.i64.wrap ((320:Int)-n)=y) (h1:¬Bad 0 18 s) (h2:¬Bad 0 d x) (h3:(s == 16)=true) (h4:((n:Int) == 0)=true) :
  Calls Tryz.prog 192 #[.agg #[.int .i64 s,.int .i64 x],.pointer (some ⟨g,0,none⟩)] w (Wrote w true):=by
 have HGL:=Lib.hid (World.block_lt_of_cell? w _ hg)
 have HG:=Lib.hid hg
 have HSP:=Lib.hid (And.intro hl hm)
 have H1:=Lib.hid h1
 have H2:=Lib.hid h2
 clear h1 h2
 clear hl hm hg
 obtain ⟨B,hB⟩:∃ B,B=w.heap.size:=⟨_,rfl⟩
 have HC:Hid (∀ W,Below (B+1) (w.alloc (.cells #[.int .i64 s,.int .i64 x] 252)) W→W.cell? ⟨B,0,none⟩=some (.int .i64 s)∧W.cell? ⟨B,1,none⟩=some (.int .i64 x)∧W.cell? ⟨g,0,none⟩=some (.slice ao n c)):=Lib.hid fun W hb=>by
  subst hB
  refine ⟨(hb.cell (p:=⟨_,0,none⟩) (Nat.lt_succ_self _)).trans ?_,(hb.cell (p:=⟨_,1,none⟩) (Nat.lt_succ_self _)).trans ?_,(hb.cell (p:=⟨g,0,none⟩) (Nat.lt_succ_of_lt HGL.out)).trans ?_⟩
  ·simp
  ·simp
  ·have h1:g≠w.heap.size:=Nat.ne_of_lt HGL.out
   have h2:=HG.out
   simp [World.cell?_alloc_old,h1,h2]
 have HB0:Hid (Below (B+1) (w.alloc (.cells #[.int .i64 s,.int .i64 x] 252)) (w.alloc (.cells #[.int .i64 s,.int .i64 x] 252)).drew):=Lib.hid (by
  subst hB
  have h:=(Below.refl (w.alloc (.cells #[.int .i64 s,.int .i64 x] 252)).heap.size (w.alloc (.cells #[.int .i64 s,.int .i64 x] 252))).drew
  simpa using h)
 have HF:Hid (∀ W,Below (B+1) (w.alloc (.cells #[.int .i64 s,.int .i64 x] 252)) W→Below w.heap.size w W):=Lib.hid fun W hb=>by
  subst hB
  exact ((Below.refl _ w).alloc (Nat.le_refl _) _).trans (hb.mono (Nat.le_succ _))
 have HSZ:Hid (B+1≤(w.alloc (.cells #[.int .i64 s,.int .i64 x] 252)).heap.size):=Lib.hid (by subst hB;simp)
 go_enter Tryz.func192,Tryz.ntmps192
 go_upto_region 2 with (go_at_call 193;refine (span_any _ _).mono ?_;rintro e w5 ⟨rfl,rfl⟩;rw [HSP.out.1,HSP.out.2])
 rw [←hB]
 clear hB
 generalize (w.alloc (.cells #[.int .i64 s,.int .i64 x] 252))=w3 at *
 refine wp_region_held_drew (S:=fun W=>W.cell? ⟨B,0,none⟩=some (.int .i64 s)∧W.cell? ⟨B,1,none⟩=some (.int .i64 x)∧W.cell? ⟨g,0,none⟩=some (.slice ao n c)) (by kernel_rfl) (HC.out _ HB0.out) (fun hHeld=>?_)
 refine wpAnyH_take (i:=1) (v := .pointer (some ⟨B,0,none⟩)) (oi:={ dst:=some 13,op:=Op.fieldAddr 252 (Operand.tmp 2) 0,type:=0,pos := "lens.go:97",after := #[],guard:=none }) rfl (by kernel_rfl) (by kernel_rfl) (by kernel_rfl) (fun _ _ _ h=>h) (Or.inl ⟨by rfl,fun W hSw=>by obtain ⟨hs1,hs2,hs3⟩:=hSw;go_simp⟩) hHeld ?_
 try simp only [Act.put,List.setIfInBounds_toArray,List.set_cons_zero,List.set_cons_succ]
 refine wpAnyH_take (i:=2) (v := .int .i64 s) (oi:={ dst:=some 14,op:=Op.load 3 (Operand.tmp 13),type:=3,pos := "lens.go:97",after := #[{ on:=1,ground:=Ground.data }],guard:=none }) rfl (by kernel_rfl) (by kernel_rfl) (by kernel_rfl) (fun _ _ _ h=>h) (Or.inl ⟨by rfl,fun W hSw=>by obtain ⟨hs1,hs2,hs3⟩:=hSw;go_simp⟩) hHeld ?_
 try simp only [Act.put,List.setIfInBounds_toArray,List.set_cons_zero,List.set_cons_succ]
 refine wpAnyH_ready (rs:=[0]) (by kernel_rfl) (by simp) ?_
 refine AllReadyH.cons (o:={ dst:=some 12,op:=Op.call { callee:=Callee.value (Operand.func 194),args := #[Operand.const (Value.int IntKind.i64 0),Operand.const (Value.int IntKind.i64 18)],argTypes := #[3,3] },type:=174,pos := "lens.go:97",after := #[],guard:=none }) rfl (fun K hK=>?_) AllReadyH.nil
 refine step_call (by rfl) _ _ (run_call2 (.func 194) (.const (.int .i64 0)) (.const (.int .i64 18)) _ 194 #[] (.int .i64 0) (.int .i64 18) (fun _=>enter21 _ _) rfl rfl rfl rfl) (fun v W=>∃ p q,v=fnOut p q∧Kept W p q 0 18∧Below (B+1) w3 W) ?_ ?_
 ·refine (outside_any 0 18 _).mono ?_
  rintro e w1 ⟨p,q,rfl,hk,hb,hp,hq⟩
  exact ⟨_,rfl,p,q,rfl,hk,HB0.out.trans (hb.mono (Nat.le_trans HSZ.out HB0.out.size))⟩
 rintro v1 w1 ⟨p1,q1,rfl,hk,hb⟩
 have HK1:=Lib.hid hk
 have HB1:=Lib.hid hb
 clear hk hb
 refine hK.out _ _ (HC.out _ HB1.out) (fun hHeld=>?_)
 clear hK K
 try simp only [Act.put,List.setIfInBounds_toArray,List.set_cons_zero,List.set_cons_succ]
 refine wpAnyH_ready (rs:=[3]) (by kernel_rfl) (by simp) ?_
 refine AllReadyH.cons (o:={ dst:=some 15,op:=Op.call { callee:=Callee.value (Operand.tmp 12),args := #[Operand.tmp 14],argTypes := #[3] },type:=4,pos := "lens.go:97",after := #[{ on:=0,ground:=Ground.data },{ on:=2,ground:=Ground.data },{ on:=0,ground:=Ground.chain }],guard:=none }) rfl (fun K hK=>?_) AllReadyH.nil
 refine step_call (by rfl) _ _ (run_call1 (.tmp 12) (.tmp 14) _ 197 #[.pointer (some ⟨p1,0,none⟩),.pointer (some ⟨q1,0,none⟩)] (.int .i64 s) (fun _=>enter35 _ _) rfl rfl rfl) (fun v W=>v = .bool false∧W=w1) ?_ ?_
 ·refine (bad_no p1 q1 0 18 s _ HK1.out H1.out).mono ?_
  rintro e W ⟨rfl,rfl⟩
  exact ⟨_,rfl,rfl,rfl⟩
 rintro v W ⟨rfl,rfl⟩
 refine hK.out _ _ (HC.out _ HB1.out) (fun hHeld=>?_)
 clear hK K
 try simp only [Act.put,List.setIfInBounds_toArray,List.set_cons_zero,List.set_cons_succ]
 refine wpAnyH_take (i:=4) (v := .bool false) (oi:={ dst:=some 16,op:=Op.move (Operand.tmp 15),type:=4,pos := "lens.go:97",after := #[{ on:=3,ground:=Ground.data },{ on:=3,ground:=Ground.chain }],guard:=none }) rfl (by kernel_rfl) (by kernel_rfl) (by kernel_rfl) (fun _ _ _ h=>h) (Or.inl ⟨by rfl,fun W hSw=>by obtain ⟨hs1,hs2,hs3⟩:=hSw;go_simp⟩) hHeld ?_
 try simp only [Act.put,List.setIfInBounds_toArray,List.set_cons_zero,List.set_cons_succ]
 refine wpAnyH_take (i:=5) (v := .int .i64 m) (oi:={ dst:=some 17,op:=Op.move (Operand.tmp 5),type:=3,pos := "lens.go:97",after := #[{ on:=4,ground:=Ground.guard }],guard:=some (4,false) }) rfl (by kernel_rfl) (by kernel_rfl) (by kernel_rfl) (fun _ _ _ h=>h) (Or.inl ⟨by rfl,fun W hSw=>by obtain ⟨hs1,hs2,hs3⟩:=hSw;go_simp⟩) hHeld ?_
 try simp only [Act.put,List.setIfInBounds_toArray,List.set_cons_zero,List.set_cons_succ]
 refine wpAnyH_take (i:=6) (v := .int .i64 l) (oi:={ dst:=some 18,op:=Op.move (Operand.tmp 4),type:=3,pos := "lens.go:97",after := #[{ on:=4,ground:=Ground.guard }],guard:=some (4,false) }) rfl (by kernel_rfl) (by kernel_rfl) (by kernel_rfl) (fun _ _ _ h=>h) (Or.inl ⟨by rfl,fun W hSw=>by obtain ⟨hs1,hs2,hs3⟩:=hSw;go_simp⟩) hHeld ?_
 try simp only [Act.put,List.setIfInBounds_toArray,List.set_cons_zero,List.set_cons_succ]
 refine wpAnyH_take (i:=7) (v := .int .i64 d) (oi:={ dst:=some 19,op:=Op.binOp BinOp.sub 3 (Operand.tmp 17) (Operand.tmp 18) 3,type:=3,pos := "lens.go:97",after := #[{ on:=5,ground:=Ground.data },{ on:=6,ground:=Ground.data },{ on:=4,ground:=Ground.guard }],guard:=some (4,false) }) rfl (by kernel_rfl) (by kernel_rfl) (by kernel_rfl) (fun _ _ _ h=>h) (Or.inl ⟨by rfl,fun W hSw=>by obtain ⟨hs1,hs2,hs3⟩:=hSw;go_simp⟩) hHeld ?_
 try simp only [Act.put,List.setIfInBounds_toArray,List.set_cons_zero,List.set_cons_succ]
 refine wpAnyH_take (i:=9) (v := .pointer (some ⟨B,1,none⟩)) (oi:={ dst:=some 21,op:=Op.fieldAddr 252 (Operand.tmp 2) 1,type:=0,pos := "lens.go:97",after := #[{ on:=4,ground:=Ground.guard }],guard:=some (4,false) }) rfl (by kernel_rfl) (by kernel_rfl) (by kernel_rfl) (fun _ _ _ h=>h) (Or.inl ⟨by rfl,fun W hSw=>by obtain ⟨hs1,hs2,hs3⟩:=hSw;go_simp⟩) hHeld ?_
 try simp only [Act.put,List.setIfInBounds_toArray,List.set_cons_zero,List.set_cons_succ]
 refine wpAnyH_take (i:=10) (v := .int .i64 x) (oi:={ dst:=some 22,op:=Op.load 3 (Operand.tmp 21),type:=3,pos := "lens.go:97",after := #[{ on:=9,ground:=Ground.data },{ on:=4,ground:=Ground.guard }],guard:=some (4,false) }) rfl (by kernel_rfl) (by kernel_rfl) (by kernel_rfl) (fun _ _ _ h=>h) (Or.inl ⟨by rfl,fun W hSw=>by obtain ⟨hs1,hs2,hs3⟩:=hSw;go_simp⟩) hHeld ?_
 try simp only [Act.put,List.setIfInBounds_toArray,List.set_cons_zero,List.set_cons_succ]
 refine wpAnyH_ready (rs:=[8]) (by kernel_rfl) (by simp) ?_
 refine AllReadyH.cons (o:={ dst:=some 20,op:=Op.call { callee:=Callee.value (Operand.func 194),args := #[Operand.const (Value.int IntKind.i64 0),Operand.tmp 19],argTypes := #[3,3] },type:=174,pos := "lens.go:97",after := #[{ on:=7,ground:=Ground.data },{ on:=4,ground:=Ground.chain },{ on:=4,ground:=Ground.guard }],guard:=some (4,false) }) rfl (fun K hK=>?_) AllReadyH.nil
 refine step_call (by rfl) _ _ (run_call2 (.func 194) (.const (.int .i64 0)) (.tmp 19) _ 194 #[] (.int .i64 0) (.int .i64 d) (fun _=>enter21 _ _) rfl rfl rfl rfl) (fun v W=>∃ p q,v=fnOut p q∧Kept W p q 0 d∧Below (B+1) w3 W) ?_ ?_
 ·refine (outside_any 0 d _).mono ?_
  rintro e w2 ⟨p,q,rfl,hk,hb,hp,hq⟩
  exact ⟨_,rfl,p,q,rfl,hk,HB1.out.trans (hb.mono (Nat.le_trans HSZ.out HB1.out.size))⟩
 rintro v2 w2 ⟨p2,q2,rfl,hk,hb⟩
 have HK2:=Lib.hid hk
 have HB2:=Lib.hid hb
 clear hk hb
 refine hK.out _ _ (HC.out _ HB2.out) (fun hHeld=>?_)
 clear hK K
 try simp only [Act.put,List.setIfInBounds_toArray,List.set_cons_zero,List.set_cons_succ]
 refine wpAnyH_ready (rs:=[11]) (by kernel_rfl) (by simp) ?_
 refine AllReadyH.cons (o:={ dst:=some 23,op:=Op.call { callee:=Callee.value (Operand.tmp 20),args := #[Operand.tmp 22],argTypes := #[3] },type:=4,pos := "lens.go:97",after := #[{ on:=8,ground:=Ground.data },{ on:=10,ground:=Ground.data },{ on:=8,ground:=Ground.chain },{ on:=4,ground:=Ground.guard }],guard:=some (4,false) }) rfl (fun K hK=>?_) AllReadyH.nil
 refine step_call (by rfl) _ _ (run_call1 (.tmp 20) (.tmp 22) _ 197 #[.pointer (some ⟨p2,0,none⟩),.pointer (some ⟨q2,0,none⟩)] (.int .i64 x) (fun _=>enter35 _ _) rfl rfl rfl) (fun v W=>v = .bool false∧W=w2) ?_ ?_
 ·refine (bad_no p2 q2 0 d x _ HK2.out H2.out).mono ?_
  rintro e W ⟨rfl,rfl⟩
  exact ⟨_,rfl,rfl,rfl⟩
 rintro v W ⟨rfl,rfl⟩
 refine hK.out _ _ (HC.out _ HB2.out) (fun hHeld=>?_)
 clear hK K
 try simp only [Act.put,List.setIfInBounds_toArray,List.set_cons_zero,List.set_cons_succ]
 refine wpAnyH_take (i:=12) (v := .bool false) (oi:={ dst:=some 24,op:=Op.pick (Operand.tmp 16) (Operand.const (Value.bool true)) (Operand.tmp 23),type:=4,pos := "lens.go:97",after := #[{ on:=4,ground:=Ground.data },{ on:=11,ground:=Ground.data }],guard:=none }) rfl (by kernel_rfl) (by kernel_rfl) (by kernel_rfl) (fun _ _ _ h=>h) (Or.inl ⟨by rfl,fun W hSw=>by obtain ⟨hs1,hs2,hs3⟩:=hSw;go_simp⟩) hHeld ?_
 try simp only [Act.put,List.setIfInBounds_toArray,List.set_cons_zero,List.set_cons_succ]
 refine wpAnyH_take (i:=13) (v := .bool false) (oi:={ dst:=some 25,op:=Op.move (Operand.tmp 24),type:=4,pos := "lens.go:97",after := #[{ on:=12,ground:=Ground.data },{ on:=11,ground:=Ground.chain }],guard:=none }) rfl (by kernel_rfl) (by kernel_rfl) (by kernel_rfl) (fun _ _ _ h=>h) (Or.inl ⟨by rfl,fun W hSw=>by obtain ⟨hs1,hs2,hs3⟩:=hSw;go_simp⟩) hHeld ?_
 try simp only [Act.put,List.setIfInBounds_toArray,List.set_cons_zero,List.set_cons_succ]
 refine wpAnyH_take (i:=14) (v := .pointer (some ⟨B,0,none⟩)) (oi:={ dst:=some 26,op:=Op.fieldAddr 252 (Operand.tmp 2) 0,type:=0,pos := "lens.go:97",after := #[{ on:=13,ground:=Ground.guard }],guard:=some (13,false) }) rfl (by kernel_rfl) (by kernel_rfl) (by kernel_rfl) (fun _ _ _ h=>h) (Or.inl ⟨by rfl,fun W hSw=>by obtain ⟨hs1,hs2,hs3⟩:=hSw;go_simp⟩) hHeld ?_
 try simp only [Act.put,List.setIfInBounds_toArray,List.set_cons_zero,List.set_cons_succ]
 refine wpAnyH_take (i:=15) (v := .int .i64 s) (oi:={ dst:=some 27,op:=Op.load 3 (Operand.tmp 26),type:=3,pos := "lens.go:97",after := #[{ on:=14,ground:=Ground.data },{ on:=13,ground:=Ground.guard }],guard:=some (13,false) }) rfl (by kernel_rfl) (by kernel_rfl) (by kernel_rfl) (fun _ _ _ h=>h) (Or.inl ⟨by rfl,fun W hSw=>by obtain ⟨hs1,hs2,hs3⟩:=hSw;go_simp⟩) hHeld ?_
 try simp only [Act.put,List.setIfInBounds_toArray,List.set_cons_zero,List.set_cons_succ]
 refine wpAnyH_take (i:=16) (v := .bool true) (oi:={ dst:=some 28,op:=Op.binOp BinOp.eql 3 (Operand.tmp 27) (Operand.const (Value.int IntKind.i64 16)) 3,type:=4,pos := "lens.go:97",after := #[{ on:=15,ground:=Ground.data },{ on:=13,ground:=Ground.guard }],guard:=some (13,false) }) rfl (by kernel_rfl) (by kernel_rfl) (by kernel_rfl) (fun _ _ _ h=>h) (Or.inl ⟨by rfl,fun W hSw=>by obtain ⟨hs1,hs2,hs3⟩:=hSw;go_simp⟩) hHeld ?_
 try simp only [Act.put,List.setIfInBounds_toArray,List.set_cons_zero,List.set_cons_succ]
 refine wpAnyH_take (i:=17) (v := .bool true) (oi:={ dst:=some 29,op:=Op.move (Operand.tmp 28),type:=4,pos := "lens.go:97",after := #[{ on:=16,ground:=Ground.data },{ on:=13,ground:=Ground.chain },{ on:=13,ground:=Ground.guard }],guard:=some (13,false) }) rfl (by kernel_rfl) (by kernel_rfl) (by kernel_rfl) (fun _ _ _ h=>h) (Or.inl ⟨by rfl,fun W hSw=>by obtain ⟨hs1,hs2,hs3⟩:=hSw;go_simp⟩) hHeld ?_
 try simp only [Act.put,List.setIfInBounds_toArray,List.set_cons_zero,List.set_cons_succ]
 refine wpAnyH_take (i:=18) (v := .slice ao n c) (oi:={ dst:=some 30,op:=Op.load 88 (Operand.tmp 1),type:=88,pos := "lens.go:97",after := #[{ on:=17,ground:=Ground.guard }],guard:=some (17,true) }) rfl (by kernel_rfl) (by kernel_rfl) (by kernel_rfl) (fun _ _ _ h=>h) (Or.inl ⟨by rfl,fun W hSw=>by obtain ⟨hs1,hs2,hs3⟩:=hSw;go_simp⟩) hHeld ?_
 try simp only [Act.put,List.setIfInBounds_toArray,List.set_cons_zero,List.set_cons_succ]
 refine wpAnyH_take (i:=19) (v := .int .i64 n) (oi:={ dst:=some 31,op:=Op.call { callee:=Callee.builtin Builtin.len,args := #[Operand.tmp 30],argTypes := #[88] },type:=3,pos := "lens.go:97",after := #[{ on:=18,ground:=Ground.data },{ on:=17,ground:=Ground.guard }],guard:=some (17,true) }) rfl (by kernel_rfl) (by kernel_rfl) (by kernel_rfl) (fun _ _ _ h=>h) (Or.inl ⟨by rfl,fun W hSw=>by obtain ⟨hs1,hs2,hs3⟩:=hSw;go_simp⟩) hHeld ?_
 try simp only [Act.put,List.setIfInBounds_toArray,List.set_cons_zero,List.set_cons_succ]
 refine wpAnyH_take (i:=20) (v := .bool true) (oi:={ dst:=some 32,op:=Op.binOp BinOp.eql 3 (Operand.tmp 31) (Operand.const (Value.int IntKind.i64 0)) 3,type:=4,pos := "lens.go:97",after := #[{ on:=19,ground:=Ground.data },{ on:=17,ground:=Ground.guard }],guard:=some (17,true) }) rfl (by kernel_rfl) (by kernel_rfl) (by kernel_rfl) (fun _ _ _ h=>h) (Or.inl ⟨by rfl,fun W hSw=>by obtain ⟨hs1,hs2,hs3⟩:=hSw;go_simp⟩) hHeld ?_
 try simp only [Act.put,List.setIfInBounds_toArray,List.set_cons_zero,List.set_cons_succ]
 refine wpAnyH_take (i:=21) (v := .bool true) (oi:={ dst:=some 33,op:=Op.pick (Operand.tmp 29) (Operand.tmp 32) (Operand.const (Value.bool false)),type:=4,pos := "lens.go:97",after := #[{ on:=17,ground:=Ground.data },{ on:=20,ground:=Ground.data },{ on:=13,ground:=Ground.guard }],guard:=some (13,false) }) rfl (by kernel_rfl) (by kernel_rfl) (by kernel_rfl) (fun _ _ _ h=>h) (Or.inl ⟨by rfl,fun W hSw=>by obtain ⟨hs1,hs2,hs3⟩:=hSw;go_simp⟩) hHeld ?_
 try simp only [Act.put,List.setIfInBounds_toArray,List.set_cons_zero,List.set_cons_succ]
 refine wpAnyH_take (i:=22) (v := .bool true) (oi:={ dst:=some 34,op:=Op.pick (Operand.tmp 25) (Operand.const (Value.bool true)) (Operand.tmp 33),type:=4,pos := "lens.go:97",after := #[{ on:=13,ground:=Ground.data },{ on:=21,ground:=Ground.data }],guard:=none }) rfl (by kernel_rfl) (by kernel_rfl) (by kernel_rfl) (fun _ _ _ h=>h) (Or.inl ⟨by rfl,fun W hSw=>by obtain ⟨hs1,hs2,hs3⟩:=hSw;go_simp⟩) hHeld ?_
 try simp only [Act.put,List.setIfInBounds_toArray,List.set_cons_zero,List.set_cons_succ]
 refine wpAnyH_take (i:=23) (v := .bool true) (oi:={ dst:=some 35,op:=Op.move (Operand.tmp 34),type:=4,pos := "lens.go:97",after := #[{ on:=22,ground:=Ground.data },{ on:=17,ground:=Ground.chain }],guard:=none }) rfl (by kernel_rfl) (by kernel_rfl) (by kernel_rfl) (fun _ _ _ h=>h) (Or.inl ⟨by rfl,fun W hSw=>by obtain ⟨hs1,hs2,hs3⟩:=hSw;go_simp⟩) hHeld ?_
 try simp only [Act.put,List.setIfInBounds_toArray,List.set_cons_zero,List.set_cons_succ]
 refine wpAnyH_take (i:=24) (v:=undef) (oi:={ dst:=some 36,op:=Op.move (Operand.tmp 4),type:=3,pos := "lens.go:97",after := #[{ on:=23,ground:=Ground.guard }],guard:=some (23,false) }) rfl (by kernel_rfl) (by kernel_rfl) (by kernel_rfl) (fun _ _ _ h=>h) (Or.inr ⟨by rfl,rfl⟩) hHeld ?_
 try simp only [Act.put,List.setIfInBounds_toArray,List.set_cons_zero,List.set_cons_succ]
 refine wpAnyH_take (i:=25) (v:=undef) (oi:={ dst:=some 37,op:=Op.fieldAddr 252 (Operand.tmp 2) 1,type:=0,pos := "lens.go:97",after := #[{ on:=23,ground:=Ground.guard }],guard:=some (23,false) }) rfl (by kernel_rfl) (by kernel_rfl) (by kernel_rfl) (fun _ _ _ h=>h) (Or.inr ⟨by rfl,rfl⟩) hHeld ?_
 try simp only [Act.put,List.setIfInBounds_toArray,List.set_cons_zero,List.set_cons_succ]
 refine wpAnyH_take (i:=26) (v:=undef) (oi:={ dst:=some 38,op:=Op.load 3 (Operand.tmp 37),type:=3,pos := "lens.go:97",after := #[{ on:=25,ground:=Ground.data },{ on:=23,ground:=Ground.guard }],guard:=some (23,false) }) rfl (by kernel_rfl) (by kernel_rfl) (by kernel_rfl) (fun _ _ _ h=>h) (Or.inr ⟨by rfl,rfl⟩) hHeld ?_
 try simp only [Act.put,List.setIfInBounds_toArray,List.set_cons_zero,List.set_cons_succ]
 refine wpAnyH_take (i:=27) (v:=undef) (oi:={ dst:=some 39,op:=Op.binOp BinOp.add 3 (Operand.tmp 36) (Operand.tmp 38) 3,type:=3,pos := "lens.go:97",after := #[{ on:=24,ground:=Ground.data },{ on:=26,ground:=Ground.data },{ on:=23,ground:=Ground.guard }],guard:=some (23,false) }) rfl (by kernel_rfl) (by kernel_rfl) (by kernel_rfl) (fun _ _ _ h=>h) (Or.inr ⟨by rfl,rfl⟩) hHeld ?_
 try simp only [Act.put,List.setIfInBounds_toArray,List.set_cons_zero,List.set_cons_succ]
 refine wpAnyH_take (i:=28) (v:=undef) (oi:={ dst:=some 40,op:=Op.load 88 (Operand.tmp 1),type:=88,pos := "lens.go:97",after := #[{ on:=23,ground:=Ground.guard }],guard:=some (23,false) }) rfl (by kernel_rfl) (by kernel_rfl) (by kernel_rfl) (fun _ _ _ h=>h) (Or.inr ⟨by rfl,rfl⟩) hHeld ?_
 try simp only [Act.put,List.setIfInBounds_toArray,List.set_cons_zero,List.set_cons_succ]
 refine wpAnyH_take (i:=29) (v:=undef) (oi:={ dst:=some 41,op:=Op.call { callee:=Callee.builtin Builtin.len,args := #[Operand.tmp 40],argTypes := #[88] },type:=3,pos := "lens.go:97",after := #[{ on:=28,ground:=Ground.data },{ on:=23,ground:=Ground.guard }],guard:=some (23,false) }) rfl (by kernel_rfl) (by kernel_rfl) (by kernel_rfl) (fun _ _ _ h=>h) (Or.inr ⟨by rfl,rfl⟩) hHeld ?_
 try simp only [Act.put,List.setIfInBounds_toArray,List.set_cons_zero,List.set_cons_succ]
 refine wpAnyH_take (i:=30) (v:=undef) (oi:={ dst:=some 42,op:=Op.binOp BinOp.sub 3 (Operand.const (Value.int IntKind.i64 320)) (Operand.tmp 41) 3,type:=3,pos := "lens.go:97",after := #[{ on:=29,ground:=Ground.data },{ on:=23,ground:=Ground.guard }],guard:=some (23,false) }) rfl (by kernel_rfl) (by kernel_rfl) (by kernel_rfl) (fun _ _ _ h=>h) (Or.inr ⟨by rfl,rfl⟩) hHeld ?_
 try simp only [Act.put,List.setIfInBounds_toArray,List.set_cons_zero,List.set_cons_succ]
 refine wpAnyH_take (i:=31) (v:=undef) (oi:={ dst:=some 43,op:=Op.binOp BinOp.gtr 3 (Operand.tmp 39) (Operand.tmp 42) 3,type:=4,pos := "lens.go:97",after := #[{ on:=27,ground:=Ground.data },{ on:=30,ground:=Ground.data },{ on:=23,ground:=Ground.guard }],guard:=some (23,false) }) rfl (by kernel_rfl) (by kernel_rfl) (by kernel_rfl) (fun _ _ _ h=>h) (Or.inr ⟨by rfl,rfl⟩) hHeld ?_
 try simp only [Act.put,List.setIfInBounds_toArray,List.set_cons_zero,List.set_cons_succ]
 refine wpAnyH_take (i:=32) (v := .bool true) (oi:={ dst:=some 44,op:=Op.pick (Operand.tmp 35) (Operand.const (Value.bool true)) (Operand.tmp 43),type:=4,pos := "lens.go:97",after := #[{ on:=23,ground:=Ground.data },{ on:=31,ground:=Ground.data }],guard:=none }) rfl (by kernel_rfl) (by kernel_rfl) (by kernel_rfl) (fun _ _ _ h=>h) (Or.inl ⟨by rfl,fun W hSw=>by obtain ⟨hs1,hs2,hs3⟩:=hSw;go_simp⟩) hHeld ?_
 try simp only [Act.put,List.setIfInBounds_toArray,List.set_cons_zero,List.set_cons_succ]
 refine wpAnyH_take (i:=33) (v := .bool true) (oi:={ dst:=some 3,op:=Op.assign (Operand.tmp 44),type:=4,pos := "lens.go:97",after := #[{ on:=32,ground:=Ground.data },{ on:=23,ground:=Ground.chain },{ on:=0,ground:=Ground.phase },{ on:=1,ground:=Ground.phase },{ on:=2,ground:=Ground.phase },{ on:=3,ground:=Ground.phase },{ on:=4,ground:=Ground.phase },{ on:=5,ground:=Ground.phase },{ on:=6,ground:=Ground.phase },{ on:=7,ground:=Ground.phase },{ on:=8,ground:=Ground.phase },{ on:=9,ground:=Ground.phase },{ on:=10,ground:=Ground.phase },{ on:=11,ground:=Ground.phase },{ on:=12,ground:=Ground.phase },{ on:=13,ground:=Ground.phase },{ on:=14,ground:=Ground.phase },{ on:=15,ground:=Ground.phase },{ on:=16,ground:=Ground.phase },{ on:=17,ground:=Ground.phase },{ on:=18,ground:=Ground.phase },{ on:=19,ground:=Ground.phase },{ on:=20,ground:=Ground.phase },{ on:=21,ground:=Ground.phase },{ on:=22,ground:=Ground.phase },{ on:=23,ground:=Ground.phase },{ on:=24,ground:=Ground.phase },{ on:=25,ground:=Ground.phase },{ on:=26,ground:=Ground.phase },{ on:=27,ground:=Ground.phase },{ on:=28,ground:=Ground.phase },{ on:=29,ground:=Ground.phase },{ on:=30,ground:=Ground.phase },{ on:=31,ground:=Ground.phase },{ on:=32,ground:=Ground.phase }],guard:=none }) rfl (by kernel_rfl) (by kernel_rfl) (by kernel_rfl) (fun _ _ _ h=>h) (Or.inl ⟨by rfl,fun W hSw=>by obtain ⟨hs1,hs2,hs3⟩:=hSw;go_simp⟩) hHeld ?_
 try simp only [Act.put,List.setIfInBounds_toArray,List.set_cons_zero,List.set_cons_succ]
 refine wpAnyH_done (by kernel_rfl) ?_ _
 clear hHeld
 go_wp2
 go_ret
 exact ⟨rfl,HF.out _ HB2.out⟩
set_option maxHeartbeats 4000000 in
set_option maxRecDepth 100000 in
theorem wr_d (g n c l m d:Nat) (ao:Option Addr) (s x u y:Int) (w:World) (hg:w.cell? ⟨g,0,none⟩=some (.slice ao n c)) (hl:spl s=l) (hm:spm s=m) (_e1:IntKind.i64.wrap ((m:Int)-l)=d)
  (_e2:IntKind.i64.wrap ((l:Int)+x)=u) (_e3:IntKind.i64.wrap ((320:Int)-n)=y) (h1:¬Bad 0 18 s) (h2:¬Bad 0 d x) (h3:(s == 16)=true) (h4:((n:Int) == 0)=false) (h5:decide (y<u)=true) :
  Calls Tryz.prog 192 #[.agg #[.int .i64 s,.int .i64 x],.pointer (some ⟨g,0,none⟩)] w (Wrote w true):=by
 have HGL:=Lib.hid (World.block_lt_of_cell? w _ hg)
 have HG:=Lib.hid hg
 have HSP:=Lib.hid (And.intro hl hm)
 have H1:=Lib.hid h1
 have H2:=Lib.hid h2
 clear h1 h2
 clear hl hm hg
 obtain ⟨B,hB⟩:∃ B,B=w.heap.size:=⟨_,rfl⟩
 have HC:Hid (∀ W,Below (B+1) (w.alloc (.cells #[.int .i64 s,.int .i64 x] 252)) W→W.cell? ⟨B,0,none⟩=some (.int .i64 s)∧W.cell? ⟨B,1,none⟩=some (.int .i64 x)∧W.cell? ⟨g,0,none⟩=some (.slice ao n c)):=Lib.hid fun W hb=>by
  subst hB
  refine ⟨(hb.cell (p:=⟨_,0,none⟩) (Nat.lt_succ_self _)).trans ?_,(hb.cell (p:=⟨_,1,none⟩) (Nat.lt_succ_self _)).trans ?_,(hb.cell (p:=⟨g,0,none⟩) (Nat.lt_succ_of_lt HGL.out)).trans ?_⟩
  ·simp
  ·simp
  ·have h1:g≠w.heap.size:=Nat.ne_of_lt HGL.out
   have h2:=HG.out
   simp [World.cell?_alloc_old,h1,h2]
 have HB0:Hid (Below (B+1) (w.alloc (.cells #[.int .i64 s,.int .i64 x] 252)) (w.alloc (.cells #[.int .i64 s,.int .i64 x] 252)).drew):=Lib.hid (by
  subst hB
  have h:=(Below.refl (w.alloc (.cells #[.int .i64 s,.int .i64 x] 252)).heap.size (w.alloc (.cells #[.int .i64 s,.int .i64 x] 252))).drew
  simpa using h)
 have HF:Hid (∀ W,Below (B+1) (w.alloc (.cells #[.int .i64 s,.int .i64 x] 252)) W→Below w.heap.size w W):=Lib.hid fun W hb=>by
  subst hB
  exact ((Below.refl _ w).alloc (Nat.le_refl _) _).trans (hb.mono (Nat.le_succ _))
 have HSZ:Hid (B+1≤(w.alloc (.cells #[.int .i64 s,.int .i64 x] 252)).heap.size):=Lib.hid (by subst hB;simp)
 go_enter Tryz.func192,Tryz.ntmps192
 go_upto_region 2 with (go_at_call 193;refine (span_any _ _).mono ?_;rintro e w5 ⟨rfl,rfl⟩;rw [HSP.out.1,HSP.out.2])
 rw [←hB]
 clear hB
 generalize (w.alloc (.cells #[.int .i64 s,.int .i64 x] 252))=w3 at *
 refine wp_region_held_drew (S:=fun W=>W.cell? ⟨B,0,none⟩=some (.int .i64 s)∧W.cell? ⟨B,1,none⟩=some (.int .i64 x)∧W.cell? ⟨g,0,none⟩=some (.slice ao n c)) (by kernel_rfl) (HC.out _ HB0.out) (fun hHeld=>?_)
 refine wpAnyH_take (i:=1) (v := .pointer (some ⟨B,0,none⟩)) (oi:={ dst:=some 13,op:=Op.fieldAddr 252 (Operand.tmp 2) 0,type:=0,pos := "lens.go:97",after := #[],guard:=none }) rfl (by kernel_rfl) (by kernel_rfl) (by kernel_rfl) (fun _ _ _ h=>h) (Or.inl ⟨by rfl,fun W hSw=>by obtain ⟨hs1,hs2,hs3⟩:=hSw;go_simp⟩) hHeld ?_
 try simp only [Act.put,List.setIfInBounds_toArray,List.set_cons_zero,List.set_cons_succ]
 refine wpAnyH_take (i:=2) (v := .int .i64 s) (oi:={ dst:=some 14,op:=Op.load 3 (Operand.tmp 13),type:=3,pos := "lens.go:97",after := #[{ on:=1,ground:=Ground.data }],guard:=none }) rfl (by kernel_rfl) (by kernel_rfl) (by kernel_rfl) (fun _ _ _ h=>h) (Or.inl ⟨by rfl,fun W hSw=>by obtain ⟨hs1,hs2,hs3⟩:=hSw;go_simp⟩) hHeld ?_
 try simp only [Act.put,List.setIfInBounds_toArray,List.set_cons_zero,List.set_cons_succ]
 refine wpAnyH_ready (rs:=[0]) (by kernel_rfl) (by simp) ?_
 refine AllReadyH.cons (o:={ dst:=some 12,op:=Op.call { callee:=Callee.value (Operand.func 194),args := #[Operand.const (Value.int IntKind.i64 0),Operand.const (Value.int IntKind.i64 18)],argTypes := #[3,3] },type:=174,pos := "lens.go:97",after := #[],guard:=none }) rfl (fun K hK=>?_) AllReadyH.nil
 refine step_call (by rfl) _ _ (run_call2 (.func 194) (.const (.int .i64 0)) (.const (.int .i64 18)) _ 194 #[] (.int .i64 0) (.int .i64 18) (fun _=>enter21 _ _) rfl rfl rfl rfl) (fun v W=>∃ p q,v=fnOut p q∧Kept W p q 0 18∧Below (B+1) w3 W) ?_ ?_
 ·refine (outside_any 0 18 _).mono ?_
  rintro e w1 ⟨p,q,rfl,hk,hb,hp,hq⟩
  exact ⟨_,rfl,p,q,rfl,hk,HB0.out.trans (hb.mono (Nat.le_trans HSZ.out HB0.out.size))⟩
 rintro v1 w1 ⟨p1,q1,rfl,hk,hb⟩
 have HK1:=Lib.hid hk
 have HB1:=Lib.hid hb
 clear hk hb
 refine hK.out _ _ (HC.out _ HB1.out) (fun hHeld=>?_)
 clear hK K
 try simp only [Act.put,List.setIfInBounds_toArray,List.set_cons_zero,List.set_cons_succ]
 refine wpAnyH_ready (rs:=[3]) (by kernel_rfl) (by simp) ?_
 refine AllReadyH.cons (o:={ dst:=some 15,op:=Op.call { callee:=Callee.value (Operand.tmp 12),args := #[Operand.tmp 14],argTypes := #[3] },type:=4,pos := "lens.go:97",after := #[{ on:=0,ground:=Ground.data },{ on:=2,ground:=Ground.data },{ on:=0,ground:=Ground.chain }],guard:=none }) rfl (fun K hK=>?_) AllReadyH.nil
 refine step_call (by rfl) _ _ (run_call1 (.tmp 12) (.tmp 14) _ 197 #[.pointer (some ⟨p1,0,none⟩),.pointer (some ⟨q1,0,none⟩)] (.int .i64 s) (fun _=>enter35 _ _) rfl rfl rfl) (fun v W=>v = .bool false∧W=w1) ?_ ?_
 ·refine (bad_no p1 q1 0 18 s _ HK1.out H1.out).mono ?_
  rintro e W ⟨rfl,rfl⟩
  exact ⟨_,rfl,rfl,rfl⟩
 rintro v W ⟨rfl,rfl⟩
 refine hK.out _ _ (HC.out _ HB1.out) (fun hHeld=>?_)
 clear hK K
 try simp only [Act.put,List.setIfInBounds_toArray,List.set_cons_zero,List.set_cons_succ]
 refine wpAnyH_take (i:=4) (v := .bool false) (oi:={ dst:=some 16,op:=Op.move (Operand.tmp 15),type:=4,pos := "lens.go:97",after := #[{ on:=3,ground:=Ground.data },{ on:=3,ground:=Ground.chain }],guard:=none }) rfl (by kernel_rfl) (by kernel_rfl) (by kernel_rfl) (fun _ _ _ h=>h) (Or.inl ⟨by rfl,fun W hSw=>by obtain ⟨hs1,hs2,hs3⟩:=hSw;go_simp⟩) hHeld ?_
 try simp only [Act.put,List.setIfInBounds_toArray,List.set_cons_zero,List.set_cons_succ]
 refine wpAnyH_take (i:=5) (v := .int .i64 m) (oi:={ dst:=some 17,op:=Op.move (Operand.tmp 5),type:=3,pos := "lens.go:97",after := #[{ on:=4,ground:=Ground.guard }],guard:=some (4,false) }) rfl (by kernel_rfl) (by kernel_rfl) (by kernel_rfl) (fun _ _ _ h=>h) (Or.inl ⟨by rfl,fun W hSw=>by obtain ⟨hs1,hs2,hs3⟩:=hSw;go_simp⟩) hHeld ?_
 try simp only [Act.put,List.setIfInBounds_toArray,List.set_cons_zero,List.set_cons_succ]
 refine wpAnyH_take (i:=6) (v := .int .i64 l) (oi:={ dst:=some 18,op:=Op.move (Operand.tmp 4),type:=3,pos := "lens.go:97",after := #[{ on:=4,ground:=Ground.guard }],guard:=some (4,false) }) rfl (by kernel_rfl) (by kernel_rfl) (by kernel_rfl) (fun _ _ _ h=>h) (Or.inl ⟨by rfl,fun W hSw=>by obtain ⟨hs1,hs2,hs3⟩:=hSw;go_simp⟩) hHeld ?_
 try simp only [Act.put,List.setIfInBounds_toArray,List.set_cons_zero,List.set_cons_succ]
 refine wpAnyH_take (i:=7) (v := .int .i64 d) (oi:={ dst:=some 19,op:=Op.binOp BinOp.sub 3 (Operand.tmp 17) (Operand.tmp 18) 3,type:=3,pos := "lens.go:97",after := #[{ on:=5,ground:=Ground.data },{ on:=6,ground:=Ground.data },{ on:=4,ground:=Ground.guard }],guard:=some (4,false) }) rfl (by kernel_rfl) (by kernel_rfl) (by kernel_rfl) (fun _ _ _ h=>h) (Or.inl ⟨by rfl,fun W hSw=>by obtain ⟨hs1,hs2,hs3⟩:=hSw;go_simp⟩) hHeld ?_
 try simp only [Act.put,List.setIfInBounds_toArray,List.set_cons_zero,List.set_cons_succ]
 refine wpAnyH_take (i:=9) (v := .pointer (some ⟨B,1,none⟩)) (oi:={ dst:=some 21,op:=Op.fieldAddr 252 (Operand.tmp 2) 1,type:=0,pos := "lens.go:97",after := #[{ on:=4,ground:=Ground.guard }],guard:=some (4,false) }) rfl (by kernel_rfl) (by kernel_rfl) (by kernel_rfl) (fun _ _ _ h=>h) (Or.inl ⟨by rfl,fun W hSw=>by obtain ⟨hs1,hs2,hs3⟩:=hSw;go_simp⟩) hHeld ?_
 try simp only [Act.put,List.setIfInBounds_toArray,List.set_cons_zero,List.set_cons_succ]
 refine wpAnyH_take (i:=10) (v := .int .i64 x) (oi:={ dst:=some 22,op:=Op.load 3 (Operand.tmp 21),type:=3,pos := "lens.go:97",after := #[{ on:=9,ground:=Ground.data },{ on:=4,ground:=Ground.guard }],guard:=some (4,false) }) rfl (by kernel_rfl) (by kernel_rfl) (by kernel_rfl) (fun _ _ _ h=>h) (Or.inl ⟨by rfl,fun W hSw=>by obtain ⟨hs1,hs2,hs3⟩:=hSw;go_simp⟩) hHeld ?_
 try simp only [Act.put,List.setIfInBounds_toArray,List.set_cons_zero,List.set_cons_succ]
 refine wpAnyH_ready (rs:=[8]) (by kernel_rfl) (by simp) ?_
 refine AllReadyH.cons (o:={ dst:=some 20,op:=Op.call { callee:=Callee.value (Operand.func 194),args := #[Operand.const (Value.int IntKind.i64 0),Operand.tmp 19],argTypes := #[3,3] },type:=174,pos := "lens.go:97",after := #[{ on:=7,ground:=Ground.data },{ on:=4,ground:=Ground.chain },{ on:=4,ground:=Ground.guard }],guard:=some (4,false) }) rfl (fun K hK=>?_) AllReadyH.nil
 refine step_call (by rfl) _ _ (run_call2 (.func 194) (.const (.int .i64 0)) (.tmp 19) _ 194 #[] (.int .i64 0) (.int .i64 d) (fun _=>enter21 _ _) rfl rfl rfl rfl) (fun v W=>∃ p q,v=fnOut p q∧Kept W p q 0 d∧Below (B+1) w3 W) ?_ ?_
 ·refine (outside_any 0 d _).mono ?_
  rintro e w2 ⟨p,q,rfl,hk,hb,hp,hq⟩
  exact ⟨_,rfl,p,q,rfl,hk,HB1.out.trans (hb.mono (Nat.le_trans HSZ.out HB1.out.size))⟩
 rintro v2 w2 ⟨p2,q2,rfl,hk,hb⟩
 have HK2:=Lib.hid hk
 have HB2:=Lib.hid hb
 clear hk hb
 refine hK.out _ _ (HC.out _ HB2.out) (fun hHeld=>?_)
 clear hK K
 try simp only [Act.put,List.setIfInBounds_toArray,List.set_cons_zero,List.set_cons_succ]
 refine wpAnyH_ready (rs:=[11]) (by kernel_rfl) (by simp) ?_
 refine AllReadyH.cons (o:={ dst:=some 23,op:=Op.call { callee:=Callee.value (Operand.tmp 20),args := #[Operand.tmp 22],argTypes := #[3] },type:=4,pos := "lens.go:97",after := #[{ on:=8,ground:=Ground.data },{ on:=10,ground:=Ground.data },{ on:=8,ground:=Ground.chain },{ on:=4,ground:=Ground.guard }],guard:=some (4,false) }) rfl (fun K hK=>?_) AllReadyH.nil
 refine step_call (by rfl) _ _ (run_call1 (.tmp 20) (.tmp 22) _ 197 #[.pointer (some ⟨p2,0,none⟩),.pointer (some ⟨q2,0,none⟩)] (.int .i64 x) (fun _=>enter35 _ _) rfl rfl rfl) (fun v W=>v = .bool false∧W=w2) ?_ ?_
 ·refine (bad_no p2 q2 0 d x _ HK2.out H2.out).mono ?_
  rintro e W ⟨rfl,rfl⟩
  exact ⟨_,rfl,rfl,rfl⟩
 rintro v W ⟨rfl,rfl⟩
 refine hK.out _ _ (HC.out _ HB2.out) (fun hHeld=>?_)
 clear hK K
 try simp only [Act.put,List.setIfInBounds_toArray,List.set_cons_zero,List.set_cons_succ]
 refine wpAnyH_take (i:=12) (v := .bool false) (oi:={ dst:=some 24,op:=Op.pick (Operand.tmp 16) (Operand.const (Value.bool true)) (Operand.tmp 23),type:=4,pos := "lens.go:97",after := #[{ on:=4,ground:=Ground.data },{ on:=11,ground:=Ground.data }],guard:=none }) rfl (by kernel_rfl) (by kernel_rfl) (by kernel_rfl) (fun _ _ _ h=>h) (Or.inl ⟨by rfl,fun W hSw=>by obtain ⟨hs1,hs2,hs3⟩:=hSw;go_simp⟩) hHeld ?_
 try simp only [Act.put,List.setIfInBounds_toArray,List.set_cons_zero,List.set_cons_succ]
 refine wpAnyH_take (i:=13) (v := .bool false) (oi:={ dst:=some 25,op:=Op.move (Operand.tmp 24),type:=4,pos := "lens.go:97",after := #[{ on:=12,ground:=Ground.data },{ on:=11,ground:=Ground.chain }],guard:=none }) rfl (by kernel_rfl) (by kernel_rfl) (by kernel_rfl) (fun _ _ _ h=>h) (Or.inl ⟨by rfl,fun W hSw=>by obtain ⟨hs1,hs2,hs3⟩:=hSw;go_simp⟩) hHeld ?_
 try simp only [Act.put,List.setIfInBounds_toArray,List.set_cons_zero,List.set_cons_succ]
 refine wpAnyH_take (i:=14) (v := .pointer (some ⟨B,0,none⟩)) (oi:={ dst:=some 26,op:=Op.fieldAddr 252 (Operand.tmp 2) 0,type:=0,pos := "lens.go:97",after := #[{ on:=13,ground:=Ground.guard }],guard:=some (13,false) }) rfl (by kernel_rfl) (by kernel_rfl) (by kernel_rfl) (fun _ _ _ h=>h) (Or.inl ⟨by rfl,fun W hSw=>by obtain ⟨hs1,hs2,hs3⟩:=hSw;go_simp⟩) hHeld ?_
 try simp only [Act.put,List.setIfInBounds_toArray,List.set_cons_zero,List.set_cons_succ]
 refine wpAnyH_take (i:=15) (v := .int .i64 s) (oi:={ dst:=some 27,op:=Op.load 3 (Operand.tmp 26),type:=3,pos := "lens.go:97",after := #[{ on:=14,ground:=Ground.data },{ on:=13,ground:=Ground.guard }],guard:=some (13,false) }) rfl (by kernel_rfl) (by kernel_rfl) (by kernel_rfl) (fun _ _ _ h=>h) (Or.inl ⟨by rfl,fun W hSw=>by obtain ⟨hs1,hs2,hs3⟩:=hSw;go_simp⟩) hHeld ?_
 try simp only [Act.put,List.setIfInBounds_toArray,List.set_cons_zero,List.set_cons_succ]
 refine wpAnyH_take (i:=16) (v := .bool true) (oi:={ dst:=some 28,op:=Op.binOp BinOp.eql 3 (Operand.tmp 27) (Operand.const (Value.int IntKind.i64 16)) 3,type:=4,pos := "lens.go:97",after := #[{ on:=15,ground:=Ground.data },{ on:=13,ground:=Ground.guard }],guard:=some (13,false) }) rfl (by kernel_rfl) (by kernel_rfl) (by kernel_rfl) (fun _ _ _ h=>h) (Or.inl ⟨by rfl,fun W hSw=>by obtain ⟨hs1,hs2,hs3⟩:=hSw;go_simp⟩) hHeld ?_
 try simp only [Act.put,List.setIfInBounds_toArray,List.set_cons_zero,List.set_cons_succ]
 refine wpAnyH_take (i:=17) (v := .bool true) (oi:={ dst:=some 29,op:=Op.move (Operand.tmp 28),type:=4,pos := "lens.go:97",after := #[{ on:=16,ground:=Ground.data },{ on:=13,ground:=Ground.chain },{ on:=13,ground:=Ground.guard }],guard:=some (13,false) }) rfl (by kernel_rfl) (by kernel_rfl) (by kernel_rfl) (fun _ _ _ h=>h) (Or.inl ⟨by rfl,fun W hSw=>by obtain ⟨hs1,hs2,hs3⟩:=hSw;go_simp⟩) hHeld ?_
 try simp only [Act.put,List.setIfInBounds_toArray,List.set_cons_zero,List.set_cons_succ]
 refine wpAnyH_take (i:=18) (v := .slice ao n c) (oi:={ dst:=some 30,op:=Op.load 88 (Operand.tmp 1),type:=88,pos := "lens.go:97",after := #[{ on:=17,ground:=Ground.guard }],guard:=some (17,true) }) rfl (by kernel_rfl) (by kernel_rfl) (by kernel_rfl) (fun _ _ _ h=>h) (Or.inl ⟨by rfl,fun W hSw=>by obtain ⟨hs1,hs2,hs3⟩:=hSw;go_simp⟩) hHeld ?_
 try simp only [Act.put,List.setIfInBounds_toArray,List.set_cons_zero,List.set_cons_succ]
 refine wpAnyH_take (i:=19) (v := .int .i64 n) (oi:={ dst:=some 31,op:=Op.call { callee:=Callee.builtin Builtin.len,args := #[Operand.tmp 30],argTypes := #[88] },type:=3,pos := "lens.go:97",after := #[{ on:=18,ground:=Ground.data },{ on:=17,ground:=Ground.guard }],guard:=some (17,true) }) rfl (by kernel_rfl) (by kernel_rfl) (by kernel_rfl) (fun _ _ _ h=>h) (Or.inl ⟨by rfl,fun W hSw=>by obtain ⟨hs1,hs2,hs3⟩:=hSw;go_simp⟩) hHeld ?_
 try simp only [Act.put,List.setIfInBounds_toArray,List.set_cons_zero,List.set_cons_succ]
 refine wpAnyH_take (i:=20) (v := .bool false) (oi:={ dst:=some 32,op:=Op.binOp BinOp.eql 3 (Operand.tmp 31) (Operand.const (Value.int IntKind.i64 0)) 3,type:=4,pos := "lens.go:97",after := #[{ on:=19,ground:=Ground.data },{ on:=17,ground:=Ground.guard }],guard:=some (17,true) }) rfl (by kernel_rfl) (by kernel_rfl) (by kernel_rfl) (fun _ _ _ h=>h) (Or.inl ⟨by rfl,fun W hSw=>by obtain ⟨hs1,hs2,hs3⟩:=hSw;go_simp⟩) hHeld ?_
 try simp only [Act.put,List.setIfInBounds_toArray,List.set_cons_zero,List.set_cons_succ]
 refine wpAnyH_take (i:=21) (v := .bool false) (oi:={ dst:=some 33,op:=Op.pick (Operand.tmp 29) (Operand.tmp 32) (Operand.const (Value.bool false)),type:=4,pos := "lens.go:97",after := #[{ on:=17,ground:=Ground.data },{ on:=20,ground:=Ground.data },{ on:=13,ground:=Ground.guard }],guard:=some (13,false) }) rfl (by kernel_rfl) (by kernel_rfl) (by kernel_rfl) (fun _ _ _ h=>h) (Or.inl ⟨by rfl,fun W hSw=>by obtain ⟨hs1,hs2,hs3⟩:=hSw;go_simp⟩) hHeld ?_
 try simp only [Act.put,List.setIfInBounds_toArray,List.set_cons_zero,List.set_cons_succ]
 refine wpAnyH_take (i:=22) (v := .bool false) (oi:={ dst:=some 34,op:=Op.pick (Operand.tmp 25) (Operand.const (Value.bool true)) (Operand.tmp 33),type:=4,pos := "lens.go:97",after := #[{ on:=13,ground:=Ground.data },{ on:=21,ground:=Ground.data }],guard:=none }) rfl (by kernel_rfl) (by kernel_rfl) (by kernel_rfl) (fun _ _ _ h=>h) (Or.inl ⟨by rfl,fun W hSw=>by obtain ⟨hs1,hs2,hs3⟩:=hSw;go_simp⟩) hHeld ?_
 try simp only [Act.put,List.setIfInBounds_toArray,List.set_cons_zero,List.set_cons_succ]
 refine wpAnyH_take (i:=23) (v := .bool false) (oi:={ dst:=some 35,op:=Op.move (Operand.tmp 34),type:=4,pos := "lens.go:97",after := #[{ on:=22,ground:=Ground.data },{ on:=17,ground:=Ground.chain }],guard:=none }) rfl (by kernel_rfl) (by kernel_rfl) (by kernel_rfl) (fun _ _ _ h=>h) (Or.inl ⟨by rfl,fun W hSw=>by obtain ⟨hs1,hs2,hs3⟩:=hSw;go_simp⟩) hHeld ?_
 try simp only [Act.put,List.setIfInBounds_toArray,List.set_cons_zero,List.set_cons_succ]
 refine wpAnyH_take (i:=24) (v := .int .i64 l) (oi:={ dst:=some 36,op:=Op.move (Operand.tmp 4),type:=3,pos := "lens.go:97",after := #[{ on:=23,ground:=Ground.guard }],guard:=some (23,false) }) rfl (by kernel_rfl) (by kernel_rfl) (by kernel_rfl) (fun _ _ _ h=>h) (Or.inl ⟨by rfl,fun W hSw=>by obtain ⟨hs1,hs2,hs3⟩:=hSw;go_simp⟩) hHeld ?_
 try simp only [Act.put,List.setIfInBounds_toArray,List.set_cons_zero,List.set_cons_succ]
 refine wpAnyH_take (i:=25) (v := .pointer (some ⟨B,1,none⟩)) (oi:={ dst:=some 37,op:=Op.fieldAddr 252 (Operand.tmp 2) 1,type:=0,pos := "lens.go:97",after := #[{ on:=23,ground:=Ground.guard }],guard:=some (23,false) }) rfl (by kernel_rfl) (by kernel_rfl) (by kernel_rfl) (fun _ _ _ h=>h) (Or.inl ⟨by rfl,fun W hSw=>by obtain ⟨hs1,hs2,hs3⟩:=hSw;go_simp⟩) hHeld ?_
 try simp only [Act.put,List.setIfInBounds_toArray,List.set_cons_zero,List.set_cons_succ]
 refine wpAnyH_take (i:=26) (v := .int .i64 x) (oi:={ dst:=some 38,op:=Op.load 3 (Operand.tmp 37),type:=3,pos := "lens.go:97",after := #[{ on:=25,ground:=Ground.data },{ on:=23,ground:=Ground.guard }],guard:=some (23,false) }) rfl (by kernel_rfl) (by kernel_rfl) (by kernel_rfl) (fun _ _ _ h=>h) (Or.inl ⟨by rfl,fun W hSw=>by obtain ⟨hs1,hs2,hs3⟩:=hSw;go_simp⟩) hHeld ?_
 try simp only [Act.put,List.setIfInBounds_toArray,List.set_cons_zero,List.set_cons_succ]
 refine wpAnyH_take (i:=27) (v := .int .i64 u) (oi:={ dst:=some 39,op:=Op.binOp BinOp.add 3 (Operand.tmp 36) (Operand.tmp 38) 3,type:=3,pos := "lens.go:97",after := #[{ on:=24,ground:=Ground.data },{ on:=26,ground:=Ground.data },{ on:=23,ground:=Ground.guard }],guard:=some (23,false) }) rfl (by kernel_rfl) (by kernel_rfl) (by kernel_rfl) (fun _ _ _ h=>h) (Or.inl ⟨by rfl,fun W hSw=>by obtain ⟨hs1,hs2,hs3⟩:=hSw;go_simp⟩) hHeld ?_
 try simp only [Act.put,List.setIfInBounds_toArray,List.set_cons_zero,List.set_cons_succ]
 refine wpAnyH_take (i:=28) (v := .slice ao n c) (oi:={ dst:=some 40,op:=Op.load 88 (Operand.tmp 1),type:=88,pos := "lens.go:97",after := #[{ on:=23,ground:=Ground.guard }],guard:=some (23,false) }) rfl (by kernel_rfl) (by kernel_rfl) (by kernel_rfl) (fun _ _ _ h=>h) (Or.inl ⟨by rfl,fun W hSw=>by obtain ⟨hs1,hs2,hs3⟩:=hSw;go_simp⟩) hHeld ?_
 try simp only [Act.put,List.setIfInBounds_toArray,List.set_cons_zero,List.set_cons_succ]
 refine wpAnyH_take (i:=29) (v := .int .i64 n) (oi:={ dst:=some 41,op:=Op.call { callee:=Callee.builtin Builtin.len,args := #[Operand.tmp 40],argTypes := #[88] },type:=3,pos := "lens.go:97",after := #[{ on:=28,ground:=Ground.data },{ on:=23,ground:=Ground.guard }],guard:=some (23,false) }) rfl (by kernel_rfl) (by kernel_rfl) (by kernel_rfl) (fun _ _ _ h=>h) (Or.inl ⟨by rfl,fun W hSw=>by obtain ⟨hs1,hs2,hs3⟩:=hSw;go_simp⟩) hHeld ?_
 try simp only [Act.put,List.setIfInBounds_toArray,List.set_cons_zero,List.set_cons_succ]
 refine wpAnyH_take (i:=30) (v := .int .i64 y) (oi:={ dst:=some 42,op:=Op.binOp BinOp.sub 3 (Operand.const (Value.int IntKind.i64 320)) (Operand.tmp 41) 3,type:=3,pos := "lens.go:97",after := #[{ on:=29,ground:=Ground.data },{ on:=23,ground:=Ground.guard }],guard:=some (23,false) }) rfl (by kernel_rfl) (by kernel_rfl) (by kernel_rfl) (fun _ _ _ h=>h) (Or.inl ⟨by rfl,fun W hSw=>by obtain ⟨hs1,hs2,hs3⟩:=hSw;go_simp⟩) hHeld ?_
 try simp only [Act.put,List.setIfInBounds_toArray,List.set_cons_zero,List.set_cons_succ]
 refine wpAnyH_take (i:=31) (v := .bool true) (oi:={ dst:=some 43,op:=Op.binOp BinOp.gtr 3 (Operand.tmp 39) (Operand.tmp 42) 3,type:=4,pos := "lens.go:97",after := #[{ on:=27,ground:=Ground.data },{ on:=30,ground:=Ground.data },{ on:=23,ground:=Ground.guard }],guard:=some (23,false) }) rfl (by kernel_rfl) (by kernel_rfl) (by kernel_rfl) (fun _ _ _ h=>h) (Or.inl ⟨by rfl,fun W hSw=>by obtain ⟨hs1,hs2,hs3⟩:=hSw;go_simp⟩) hHeld ?_
 try simp only [Act.put,List.setIfInBounds_toArray,List.set_cons_zero,List.set_cons_succ]
 refine wpAnyH_take (i:=32) (v := .bool true) (oi:={ dst:=some 44,op:=Op.pick (Operand.tmp 35) (Operand.const (Value.bool true)) (Operand.tmp 43),type:=4,pos := "lens.go:97",after := #[{ on:=23,ground:=Ground.data },{ on:=31,ground:=Ground.data }],guard:=none }) rfl (by kernel_rfl) (by kernel_rfl) (by kernel_rfl) (fun _ _ _ h=>h) (Or.inl ⟨by rfl,fun W hSw=>by obtain ⟨hs1,hs2,hs3⟩:=hSw;go_simp⟩) hHeld ?_
 try simp only [Act.put,List.setIfInBounds_toArray,List.set_cons_zero,List.set_cons_succ]
 refine wpAnyH_take (i:=33) (v := .bool true) (oi:={ dst:=some 3,op:=Op.assign (Operand.tmp 44),type:=4,pos := "lens.go:97",after := #[{ on:=32,ground:=Ground.data },{ on:=23,ground:=Ground.chain },{ on:=0,ground:=Ground.phase },{ on:=1,ground:=Ground.phase },{ on:=2,ground:=Ground.phase },{ on:=3,ground:=Ground.phase },{ on:=4,ground:=Ground.phase },{ on:=5,ground:=Ground.phase },{ on:=6,ground:=Ground.phase },{ on:=7,ground:=Ground.phase },{ on:=8,ground:=Ground.phase },{ on:=9,ground:=Ground.phase },{ on:=10,ground:=Ground.phase },{ on:=11,ground:=Ground.phase },{ on:=12,ground:=Ground.phase },{ on:=13,ground:=Ground.phase },{ on:=14,ground:=Ground.phase },{ on:=15,ground:=Ground.phase },{ on:=16,ground:=Ground.phase },{ on:=17,ground:=Ground.phase },{ on:=18,ground:=Ground.phase },{ on:=19,ground:=Ground.phase },{ on:=20,ground:=Ground.phase },{ on:=21,ground:=Ground.phase },{ on:=22,ground:=Ground.phase },{ on:=23,ground:=Ground.phase },{ on:=24,ground:=Ground.phase },{ on:=25,ground:=Ground.phase },{ on:=26,ground:=Ground.phase },{ on:=27,ground:=Ground.phase },{ on:=28,ground:=Ground.phase },{ on:=29,ground:=Ground.phase },{ on:=30,ground:=Ground.phase },{ on:=31,ground:=Ground.phase },{ on:=32,ground:=Ground.phase }],guard:=none }) rfl (by kernel_rfl) (by kernel_rfl) (by kernel_rfl) (fun _ _ _ h=>h) (Or.inl ⟨by rfl,fun W hSw=>by obtain ⟨hs1,hs2,hs3⟩:=hSw;go_simp⟩) hHeld ?_
 try simp only [Act.put,List.setIfInBounds_toArray,List.set_cons_zero,List.set_cons_succ]
 refine wpAnyH_done (by kernel_rfl) ?_ _
 clear hHeld
 go_wp2
 go_ret
 exact ⟨rfl,HF.out _ HB2.out⟩
set_option maxHeartbeats 4000000 in
set_option maxRecDepth 100000 in
theorem wr_e (g n c l m d:Nat) (ao:Option Addr) (s x u y:Int) (w:World) (hg:w.cell? ⟨g,0,none⟩=some (.slice ao n c)) (hl:spl s=l) (hm:spm s=m) (_e1:IntKind.i64.wrap ((m:Int)-l)=d)
  (_e2:IntKind.i64.wrap ((l:Int)+x)=u) (_e3:IntKind.i64.wrap ((320:Int)-n)=y) (h1:¬Bad 0 18 s) (h2:¬Bad 0 d x) (h3:(s == 16)=true) (h4:((n:Int) == 0)=false) (h5:decide (y<u)=false) :
  Calls Tryz.prog 192 #[.agg #[.int .i64 s,.int .i64 x],.pointer (some ⟨g,0,none⟩)] w (Wrote w false):=by
 have HGL:=Lib.hid (World.block_lt_of_cell? w _ hg)
 have HG:=Lib.hid hg
 have HSP:=Lib.hid (And.intro hl hm)
 have H1:=Lib.hid h1
 have H2:=Lib.hid h2
 clear h1 h2
 clear hl hm hg
 obtain ⟨B,hB⟩:∃ B,B=w.heap.size:=⟨_,rfl⟩
 have HC:Hid (∀ W,Below (B+1) (w.alloc (.cells #[.int .i64 s,.int .i64 x] 252)) W→W.cell? ⟨B,0,none⟩=some (.int .i64 s)∧W.cell? ⟨B,1,none⟩=some (.int .i64 x)∧W.cell? ⟨g,0,none⟩=some (.slice ao n c)):=Lib.hid fun W hb=>by
  subst hB
  refine ⟨(hb.cell (p:=⟨_,0,none⟩) (Nat.lt_succ_self _)).trans ?_,(hb.cell (p:=⟨_,1,none⟩) (Nat.lt_succ_self _)).trans ?_,(hb.cell (p:=⟨g,0,none⟩) (Nat.lt_succ_of_lt HGL.out)).trans ?_⟩
  ·simp
  ·simp
  ·have h1:g≠w.heap.size:=Nat.ne_of_lt HGL.out
   have h2:=HG.out
   simp [World.cell?_alloc_old,h1,h2]
 have HB0:Hid (Below (B+1) (w.alloc (.cells #[.int .i64 s,.int .i64 x] 252)) (w.alloc (.cells #[.int .i64 s,.int .i64 x] 252)).drew):=Lib.hid (by
  subst hB
  have h:=(Below.refl (w.alloc (.cells #[.int .i64 s,.int .i64 x] 252)).heap.size (w.alloc (.cells #[.int .i64 s,.int .i64 x] 252))).drew
  simpa using h)
 have HF:Hid (∀ W,Below (B+1) (w.alloc (.cells #[.int .i64 s,.int .i64 x] 252)) W→Below w.heap.size w W):=Lib.hid fun W hb=>by
  subst hB
  exact ((Below.refl _ w).alloc (Nat.le_refl _) _).trans (hb.mono (Nat.le_succ _))
 have HSZ:Hid (B+1≤(w.alloc (.cells #[.int .i64 s,.int .i64 x] 252)).heap.size):=Lib.hid (by subst hB;simp)
 go_enter Tryz.func192,Tryz.ntmps192
 go_upto_region 2 with (go_at_call 193;refine (span_any _ _).mono ?_;rintro e w5 ⟨rfl,rfl⟩;rw [HSP.out.1,HSP.out.2])
 rw [←hB]
 clear hB
 generalize (w.alloc (.cells #[.int .i64 s,.int .i64 x] 252))=w3 at *
 refine wp_region_held_drew (S:=fun W=>W.cell? ⟨B,0,none⟩=some (.int .i64 s)∧W.cell? ⟨B,1,none⟩=some (.int .i64 x)∧W.cell? ⟨g,0,none⟩=some (.slice ao n c)) (by kernel_rfl) (HC.out _ HB0.out) (fun hHeld=>?_)
 refine wpAnyH_take (i:=1) (v := .pointer (some ⟨B,0,none⟩)) (oi:={ dst:=some 13,op:=Op.fieldAddr 252 (Operand.tmp 2) 0,type:=0,pos := "lens.go:97",after := #[],guard:=none }) rfl (by kernel_rfl) (by kernel_rfl) (by kernel_rfl) (fun _ _ _ h=>h) (Or.inl ⟨by rfl,fun W hSw=>by obtain ⟨hs1,hs2,hs3⟩:=hSw;go_simp⟩) hHeld ?_
 try simp only [Act.put,List.setIfInBounds_toArray,List.set_cons_zero,List.set_cons_succ]
 refine wpAnyH_take (i:=2) (v := .int .i64 s) (oi:={ dst:=some 14,op:=Op.load 3 (Operand.tmp 13),type:=3,pos := "lens.go:97",after := #[{ on:=1,ground:=Ground.data }],guard:=none }) rfl (by kernel_rfl) (by kernel_rfl) (by kernel_rfl) (fun _ _ _ h=>h) (Or.inl ⟨by rfl,fun W hSw=>by obtain ⟨hs1,hs2,hs3⟩:=hSw;go_simp⟩) hHeld ?_
 try simp only [Act.put,List.setIfInBounds_toArray,List.set_cons_zero,List.set_cons_succ]
 refine wpAnyH_ready (rs:=[0]) (by kernel_rfl) (by simp) ?_
 refine AllReadyH.cons (o:={ dst:=some 12,op:=Op.call { callee:=Callee.value (Operand.func 194),args := #[Operand.const (Value.int IntKind.i64 0),Operand.const (Value.int IntKind.i64 18)],argTypes := #[3,3] },type:=174,pos := "lens.go:97",after := #[],guard:=none }) rfl (fun K hK=>?_) AllReadyH.nil
 refine step_call (by rfl) _ _ (run_call2 (.func 194) (.const (.int .i64 0)) (.const (.int .i64 18)) _ 194 #[] (.int .i64 0) (.int .i64 18) (fun _=>enter21 _ _) rfl rfl rfl rfl) (fun v W=>∃ p q,v=fnOut p q∧Kept W p q 0 18∧Below (B+1) w3 W) ?_ ?_
 ·refine (outside_any 0 18 _).mono ?_
  rintro e w1 ⟨p,q,rfl,hk,hb,hp,hq⟩
  exact ⟨_,rfl,p,q,rfl,hk,HB0.out.trans (hb.mono (Nat.le_trans HSZ.out HB0.out.size))⟩
 rintro v1 w1 ⟨p1,q1,rfl,hk,hb⟩
 have HK1:=Lib.hid hk
 have HB1:=Lib.hid hb
 clear hk hb
 refine hK.out _ _ (HC.out _ HB1.out) (fun hHeld=>?_)
 clear hK K
 try simp only [Act.put,List.setIfInBounds_toArray,List.set_cons_zero,List.set_cons_succ]
 refine wpAnyH_ready (rs:=[3]) (by kernel_rfl) (by simp) ?_
 refine AllReadyH.cons (o:={ dst:=some 15,op:=Op.call { callee:=Callee.value (Operand.tmp 12),args := #[Operand.tmp 14],argTypes := #[3] },type:=4,pos := "lens.go:97",after := #[{ on:=0,ground:=Ground.data },{ on:=2,ground:=Ground.data },{ on:=0,ground:=Ground.chain }],guard:=none }) rfl (fun K hK=>?_) AllReadyH.nil
 refine step_call (by rfl) _ _ (run_call1 (.tmp 12) (.tmp 14) _ 197 #[.pointer (some ⟨p1,0,none⟩),.pointer (some ⟨q1,0,none⟩)] (.int .i64 s) (fun _=>enter35 _ _) rfl rfl rfl) (fun v W=>v = .bool false∧W=w1) ?_ ?_
 ·refine (bad_no p1 q1 0 18 s _ HK1.out H1.out).mono ?_
  rintro e W ⟨rfl,rfl⟩
  exact ⟨_,rfl,rfl,rfl⟩
 rintro v W ⟨rfl,rfl⟩
 refine hK.out _ _ (HC.out _ HB1.out) (fun hHeld=>?_)
 clear hK K
 try simp only [Act.put,List.setIfInBounds_toArray,List.set_cons_zero,List.set_cons_succ]
 refine wpAnyH_take (i:=4) (v := .bool false) (oi:={ dst:=some 16,op:=Op.move (Operand.tmp 15),type:=4,pos := "lens.go:97",after := #[{ on:=3,ground:=Ground.data },{ on:=3,ground:=Ground.chain }],guard:=none }) rfl (by kernel_rfl) (by kernel_rfl) (by kernel_rfl) (fun _ _ _ h=>h) (Or.inl ⟨by rfl,fun W hSw=>by obtain ⟨hs1,hs2,hs3⟩:=hSw;go_simp⟩) hHeld ?_
 try simp only [Act.put,List.setIfInBounds_toArray,List.set_cons_zero,List.set_cons_succ]
 refine wpAnyH_take (i:=5) (v := .int .i64 m) (oi:={ dst:=some 17,op:=Op.move (Operand.tmp 5),type:=3,pos := "lens.go:97",after := #[{ on:=4,ground:=Ground.guard }],guard:=some (4,false) }) rfl (by kernel_rfl) (by kernel_rfl) (by kernel_rfl) (fun _ _ _ h=>h) (Or.inl ⟨by rfl,fun W hSw=>by obtain ⟨hs1,hs2,hs3⟩:=hSw;go_simp⟩) hHeld ?_
 try simp only [Act.put,List.setIfInBounds_toArray,List.set_cons_zero,List.set_cons_succ]
 refine wpAnyH_take (i:=6) (v := .int .i64 l) (oi:={ dst:=some 18,op:=Op.move (Operand.tmp 4),type:=3,pos := "lens.go:97",after := #[{ on:=4,ground:=Ground.guard }],guard:=some (4,false) }) rfl (by kernel_rfl) (by kernel_rfl) (by kernel_rfl) (fun _ _ _ h=>h) (Or.inl ⟨by rfl,fun W hSw=>by obtain ⟨hs1,hs2,hs3⟩:=hSw;go_simp⟩) hHeld ?_
 try simp only [Act.put,List.setIfInBounds_toArray,List.set_cons_zero,List.set_cons_succ]
 refine wpAnyH_take (i:=7) (v := .int .i64 d) (oi:={ dst:=some 19,op:=Op.binOp BinOp.sub 3 (Operand.tmp 17) (Operand.tmp 18) 3,type:=3,pos := "lens.go:97",after := #[{ on:=5,ground:=Ground.data },{ on:=6,ground:=Ground.data },{ on:=4,ground:=Ground.guard }],guard:=some (4,false) }) rfl (by kernel_rfl) (by kernel_rfl) (by kernel_rfl) (fun _ _ _ h=>h) (Or.inl ⟨by rfl,fun W hSw=>by obtain ⟨hs1,hs2,hs3⟩:=hSw;go_simp⟩) hHeld ?_
 try simp only [Act.put,List.setIfInBounds_toArray,List.set_cons_zero,List.set_cons_succ]
 refine wpAnyH_take (i:=9) (v := .pointer (some ⟨B,1,none⟩)) (oi:={ dst:=some 21,op:=Op.fieldAddr 252 (Operand.tmp 2) 1,type:=0,pos := "lens.go:97",after := #[{ on:=4,ground:=Ground.guard }],guard:=some (4,false) }) rfl (by kernel_rfl) (by kernel_rfl) (by kernel_rfl) (fun _ _ _ h=>h) (Or.inl ⟨by rfl,fun W hSw=>by obtain ⟨hs1,hs2,hs3⟩:=hSw;go_simp⟩) hHeld ?_
 try simp only [Act.put,List.setIfInBounds_toArray,List.set_cons_zero,List.set_cons_succ]
 refine wpAnyH_take (i:=10) (v := .int .i64 x) (oi:={ dst:=some 22,op:=Op.load 3 (Operand.tmp 21),type:=3,pos := "lens.go:97",after := #[{ on:=9,ground:=Ground.data },{ on:=4,ground:=Ground.guard }],guard:=some (4,false) }) rfl (by kernel_rfl) (by kernel_rfl) (by kernel_rfl) (fun _ _ _ h=>h) (Or.inl ⟨by rfl,fun W hSw=>by obtain ⟨hs1,hs2,hs3⟩:=hSw;go_simp⟩) hHeld ?_
 try simp only [Act.put,List.setIfInBounds_toArray,List.set_cons_zero,List.set_cons_succ]
 refine wpAnyH_ready (rs:=[8]) (by kernel_rfl) (by simp) ?_
 refine AllReadyH.cons (o:={ dst:=some 20,op:=Op.call { callee:=Callee.value (Operand.func 194),args := #[Operand.const (Value.int IntKind.i64 0),Operand.tmp 19],argTypes := #[3,3] },type:=174,pos := "lens.go:97",after := #[{ on:=7,ground:=Ground.data },{ on:=4,ground:=Ground.chain },{ on:=4,ground:=Ground.guard }],guard:=some (4,false) }) rfl (fun K hK=>?_) AllReadyH.nil
 refine step_call (by rfl) _ _ (run_call2 (.func 194) (.const (.int .i64 0)) (.tmp 19) _ 194 #[] (.int .i64 0) (.int .i64 d) (fun _=>enter21 _ _) rfl rfl rfl rfl) (fun v W=>∃ p q,v=fnOut p q∧Kept W p q 0 d∧Below (B+1) w3 W) ?_ ?_
 ·refine (outside_any 0 d _).mono ?_
  rintro e w2 ⟨p,q,rfl,hk,hb,hp,hq⟩
  exact ⟨_,rfl,p,q,rfl,hk,HB1.out.trans (hb.mono (Nat.le_trans HSZ.out HB1.out.size))⟩
 rintro v2 w2 ⟨p2,q2,rfl,hk,hb⟩
 have HK2:=Lib.hid hk
 have HB2:=Lib.hid hb
 clear hk hb
 refine hK.out _ _ (HC.out _ HB2.out) (fun hHeld=>?_)
 clear hK K
 try simp only [Act.put,List.setIfInBounds_toArray,List.set_cons_zero,List.set_cons_succ]
 refine wpAnyH_ready (rs:=[11]) (by kernel_rfl) (by simp) ?_
 refine AllReadyH.cons (o:={ dst:=some 23,op:=Op.call { callee:=Callee.value (Operand.tmp 20),args := #[Operand.tmp 22],argTypes := #[3] },type:=4,pos := "lens.go:97",after := #[{ on:=8,ground:=Ground.data },{ on:=10,ground:=Ground.data },{ on:=8,ground:=Ground.chain },{ on:=4,ground:=Ground.guard }],guard:=some (4,false) }) rfl (fun K hK=>?_) AllReadyH.nil
 refine step_call (by rfl) _ _ (run_call1 (.tmp 20) (.tmp 22) _ 197 #[.pointer (some ⟨p2,0,none⟩),.pointer (some ⟨q2,0,none⟩)] (.int .i64 x) (fun _=>enter35 _ _) rfl rfl rfl) (fun v W=>v = .bool false∧W=w2) ?_ ?_
 ·refine (bad_no p2 q2 0 d x _ HK2.out H2.out).mono ?_
  rintro e W ⟨rfl,rfl⟩
  exact ⟨_,rfl,rfl,rfl⟩
 rintro v W ⟨rfl,rfl⟩
 refine hK.out _ _ (HC.out _ HB2.out) (fun hHeld=>?_)
 clear hK K
 try simp only [Act.put,List.setIfInBounds_toArray,List.set_cons_zero,List.set_cons_succ]
 refine wpAnyH_take (i:=12) (v := .bool false) (oi:={ dst:=some 24,op:=Op.pick (Operand.tmp 16) (Operand.const (Value.bool true)) (Operand.tmp 23),type:=4,pos := "lens.go:97",after := #[{ on:=4,ground:=Ground.data },{ on:=11,ground:=Ground.data }],guard:=none }) rfl (by kernel_rfl) (by kernel_rfl) (by kernel_rfl) (fun _ _ _ h=>h) (Or.inl ⟨by rfl,fun W hSw=>by obtain ⟨hs1,hs2,hs3⟩:=hSw;go_simp⟩) hHeld ?_
 try simp only [Act.put,List.setIfInBounds_toArray,List.set_cons_zero,List.set_cons_succ]
 refine wpAnyH_take (i:=13) (v := .bool false) (oi:={ dst:=some 25,op:=Op.move (Operand.tmp 24),type:=4,pos := "lens.go:97",after := #[{ on:=12,ground:=Ground.data },{ on:=11,ground:=Ground.chain }],guard:=none }) rfl (by kernel_rfl) (by kernel_rfl) (by kernel_rfl) (fun _ _ _ h=>h) (Or.inl ⟨by rfl,fun W hSw=>by obtain ⟨hs1,hs2,hs3⟩:=hSw;go_simp⟩) hHeld ?_
 try simp only [Act.put,List.setIfInBounds_toArray,List.set_cons_zero,List.set_cons_succ]
 refine wpAnyH_take (i:=14) (v := .pointer (some ⟨B,0,none⟩)) (oi:={ dst:=some 26,op:=Op.fieldAddr 252 (Operand.tmp 2) 0,type:=0,pos := "lens.go:97",after := #[{ on:=13,ground:=Ground.guard }],guard:=some (13,false) }) rfl (by kernel_rfl) (by kernel_rfl) (by kernel_rfl) (fun _ _ _ h=>h) (Or.inl ⟨by rfl,fun W hSw=>by obtain ⟨hs1,hs2,hs3⟩:=hSw;go_simp⟩) hHeld ?_
 try simp only [Act.put,List.setIfInBounds_toArray,List.set_cons_zero,List.set_cons_succ]
 refine wpAnyH_take (i:=15) (v := .int .i64 s) (oi:={ dst:=some 27,op:=Op.load 3 (Operand.tmp 26),type:=3,pos := "lens.go:97",after := #[{ on:=14,ground:=Ground.data },{ on:=13,ground:=Ground.guard }],guard:=some (13,false) }) rfl (by kernel_rfl) (by kernel_rfl) (by kernel_rfl) (fun _ _ _ h=>h) (Or.inl ⟨by rfl,fun W hSw=>by obtain ⟨hs1,hs2,hs3⟩:=hSw;go_simp⟩) hHeld ?_
 try simp only [Act.put,List.setIfInBounds_toArray,List.set_cons_zero,List.set_cons_succ]
 refine wpAnyH_take (i:=16) (v := .bool true) (oi:={ dst:=some 28,op:=Op.binOp BinOp.eql 3 (Operand.tmp 27) (Operand.const (Value.int IntKind.i64 16)) 3,type:=4,pos := "lens.go:97",after := #[{ on:=15,ground:=Ground.data },{ on:=13,ground:=Ground.guard }],guard:=some (13,false) }) rfl (by kernel_rfl) (by kernel_rfl) (by kernel_rfl) (fun _ _ _ h=>h) (Or.inl ⟨by rfl,fun W hSw=>by obtain ⟨hs1,hs2,hs3⟩:=hSw;go_simp⟩) hHeld ?_
 try simp only [Act.put,List.setIfInBounds_toArray,List.set_cons_zero,List.set_cons_succ]
 refine wpAnyH_take (i:=17) (v := .bool true) (oi:={ dst:=some 29,op:=Op.move (Operand.tmp 28),type:=4,pos := "lens.go:97",after := #[{ on:=16,ground:=Ground.data },{ on:=13,ground:=Ground.chain },{ on:=13,ground:=Ground.guard }],guard:=some (13,false) }) rfl (by kernel_rfl) (by kernel_rfl) (by kernel_rfl) (fun _ _ _ h=>h) (Or.inl ⟨by rfl,fun W hSw=>by obtain ⟨hs1,hs2,hs3⟩:=hSw;go_simp⟩) hHeld ?_
 try simp only [Act.put,List.setIfInBounds_toArray,List.set_cons_zero,List.set_cons_succ]
 refine wpAnyH_take (i:=18) (v := .slice ao n c) (oi:={ dst:=some 30,op:=Op.load 88 (Operand.tmp 1),type:=88,pos := "lens.go:97",after := #[{ on:=17,ground:=Ground.guard }],guard:=some (17,true) }) rfl (by kernel_rfl) (by kernel_rfl) (by kernel_rfl) (fun _ _ _ h=>h) (Or.inl ⟨by rfl,fun W hSw=>by obtain ⟨hs1,hs2,hs3⟩:=hSw;go_simp⟩) hHeld ?_
 try simp only [Act.put,List.setIfInBounds_toArray,List.set_cons_zero,List.set_cons_succ]
 refine wpAnyH_take (i:=19) (v := .int .i64 n) (oi:={ dst:=some 31,op:=Op.call { callee:=Callee.builtin Builtin.len,args := #[Operand.tmp 30],argTypes := #[88] },type:=3,pos := "lens.go:97",after := #[{ on:=18,ground:=Ground.data },{ on:=17,ground:=Ground.guard }],guard:=some (17,true) }) rfl (by kernel_rfl) (by kernel_rfl) (by kernel_rfl) (fun _ _ _ h=>h) (Or.inl ⟨by rfl,fun W hSw=>by obtain ⟨hs1,hs2,hs3⟩:=hSw;go_simp⟩) hHeld ?_
 try simp only [Act.put,List.setIfInBounds_toArray,List.set_cons_zero,List.set_cons_succ]
 refine wpAnyH_take (i:=20) (v := .bool false) (oi:={ dst:=some 32,op:=Op.binOp BinOp.eql 3 (Operand.tmp 31) (Operand.const (Value.int IntKind.i64 0)) 3,type:=4,pos := "lens.go:97",after := #[{ on:=19,ground:=Ground.data },{ on:=17,ground:=Ground.guard }],guard:=some (17,true) }) rfl (by kernel_rfl) (by kernel_rfl) (by kernel_rfl) (fun _ _ _ h=>h) (Or.inl ⟨by rfl,fun W hSw=>by obtain ⟨hs1,hs2,hs3⟩:=hSw;go_simp⟩) hHeld ?_
 try simp only [Act.put,List.setIfInBounds_toArray,List.set_cons_zero,List.set_cons_succ]
 refine wpAnyH_take (i:=21) (v := .bool false) (oi:={ dst:=some 33,op:=Op.pick (Operand.tmp 29) (Operand.tmp 32) (Operand.const (Value.bool false)),type:=4,pos := "lens.go:97",after := #[{ on:=17,ground:=Ground.data },{ on:=20,ground:=Ground.data },{ on:=13,ground:=Ground.guard }],guard:=some (13,false) }) rfl (by kernel_rfl) (by kernel_rfl) (by kernel_rfl) (fun _ _ _ h=>h) (Or.inl ⟨by rfl,fun W hSw=>by obtain ⟨hs1,hs2,hs3⟩:=hSw;go_simp⟩) hHeld ?_
 try simp only [Act.put,List.setIfInBounds_toArray,List.set_cons_zero,List.set_cons_succ]
 refine wpAnyH_take (i:=22) (v := .bool false) (oi:={ dst:=some 34,op:=Op.pick (Operand.tmp 25) (Operand.const (Value.bool true)) (Operand.tmp 33),type:=4,pos := "lens.go:97",after := #[{ on:=13,ground:=Ground.data },{ on:=21,ground:=Ground.data }],guard:=none }) rfl (by kernel_rfl) (by kernel_rfl) (by kernel_rfl) (fun _ _ _ h=>h) (Or.inl ⟨by rfl,fun W hSw=>by obtain ⟨hs1,hs2,hs3⟩:=hSw;go_simp⟩) hHeld ?_
 try simp only [Act.put,List.setIfInBounds_toArray,List.set_cons_zero,List.set_cons_succ]
 refine wpAnyH_take (i:=23) (v := .bool false) (oi:={ dst:=some 35,op:=Op.move (Operand.tmp 34),type:=4,pos := "lens.go:97",after := #[{ on:=22,ground:=Ground.data },{ on:=17,ground:=Ground.chain }],guard:=none }) rfl (by kernel_rfl) (by kernel_rfl) (by kernel_rfl) (fun _ _ _ h=>h) (Or.inl ⟨by rfl,fun W hSw=>by obtain ⟨hs1,hs2,hs3⟩:=hSw;go_simp⟩) hHeld ?_
 try simp only [Act.put,List.setIfInBounds_toArray,List.set_cons_zero,List.set_cons_succ]
 refine wpAnyH_take (i:=24) (v := .int .i64 l) (oi:={ dst:=some 36,op:=Op.move (Operand.tmp 4),type:=3,pos := "lens.go:97",after := #[{ on:=23,ground:=Ground.guard }],guard:=some (23,false) }) rfl (by kernel_rfl) (by kernel_rfl) (by kernel_rfl) (fun _ _ _ h=>h) (Or.inl ⟨by rfl,fun W hSw=>by obtain ⟨hs1,hs2,hs3⟩:=hSw;go_simp⟩) hHeld ?_
 try simp only [Act.put,List.setIfInBounds_toArray,List.set_cons_zero,List.set_cons_succ]
 refine wpAnyH_take (i:=25) (v := .pointer (some ⟨B,1,none⟩)) (oi:={ dst:=some 37,op:=Op.fieldAddr 252 (Operand.tmp 2) 1,type:=0,pos := "lens.go:97",after := #[{ on:=23,ground:=Ground.guard }],guard:=some (23,false) }) rfl (by kernel_rfl) (by kernel_rfl) (by kernel_rfl) (fun _ _ _ h=>h) (Or.inl ⟨by rfl,fun W hSw=>by obtain ⟨hs1,hs2,hs3⟩:=hSw;go_simp⟩) hHeld ?_
 try simp only [Act.put,List.setIfInBounds_toArray,List.set_cons_zero,List.set_cons_succ]
 refine wpAnyH_take (i:=26) (v := .int .i64 x) (oi:={ dst:=some 38,op:=Op.load 3 (Operand.tmp 37),type:=3,pos := "lens.go:97",after := #[{ on:=25,ground:=Ground.data },{ on:=23,ground:=Ground.guard }],guard:=some (23,false) }) rfl (by kernel_rfl) (by kernel_rfl) (by kernel_rfl) (fun _ _ _ h=>h) (Or.inl ⟨by rfl,fun W hSw=>by obtain ⟨hs1,hs2,hs3⟩:=hSw;go_simp⟩) hHeld ?_
 try simp only [Act.put,List.setIfInBounds_toArray,List.set_cons_zero,List.set_cons_succ]
 refine wpAnyH_take (i:=27) (v := .int .i64 u) (oi:={ dst:=some 39,op:=Op.binOp BinOp.add 3 (Operand.tmp 36) (Operand.tmp 38) 3,type:=3,pos := "lens.go:97",after := #[{ on:=24,ground:=Ground.data },{ on:=26,ground:=Ground.data },{ on:=23,ground:=Ground.guard }],guard:=some (23,false) }) rfl (by kernel_rfl) (by kernel_rfl) (by kernel_rfl) (fun _ _ _ h=>h) (Or.inl ⟨by rfl,fun W hSw=>by obtain ⟨hs1,hs2,hs3⟩:=hSw;go_simp⟩) hHeld ?_
 try simp only [Act.put,List.setIfInBounds_toArray,List.set_cons_zero,List.set_cons_succ]
 refine wpAnyH_take (i:=28) (v := .slice ao n c) (oi:={ dst:=some 40,op:=Op.load 88 (Operand.tmp 1),type:=88,pos := "lens.go:97",after := #[{ on:=23,ground:=Ground.guard }],guard:=some (23,false) }) rfl (by kernel_rfl) (by kernel_rfl) (by kernel_rfl) (fun _ _ _ h=>h) (Or.inl ⟨by rfl,fun W hSw=>by obtain ⟨hs1,hs2,hs3⟩:=hSw;go_simp⟩) hHeld ?_
 try simp only [Act.put,List.setIfInBounds_toArray,List.set_cons_zero,List.set_cons_succ]
 refine wpAnyH_take (i:=29) (v := .int .i64 n) (oi:={ dst:=some 41,op:=Op.call { callee:=Callee.builtin Builtin.len,args := #[Operand.tmp 40],argTypes := #[88] },type:=3,pos := "lens.go:97",after := #[{ on:=28,ground:=Ground.data },{ on:=23,ground:=Ground.guard }],guard:=some (23,false) }) rfl (by kernel_rfl) (by kernel_rfl) (by kernel_rfl) (fun _ _ _ h=>h) (Or.inl ⟨by rfl,fun W hSw=>by obtain ⟨hs1,hs2,hs3⟩:=hSw;go_simp⟩) hHeld ?_
 try simp only [Act.put,List.setIfInBounds_toArray,List.set_cons_zero,List.set_cons_succ]
 refine wpAnyH_take (i:=30) (v := .int .i64 y) (oi:={ dst:=some 42,op:=Op.binOp BinOp.sub 3 (Operand.const (Value.int IntKind.i64 320)) (Operand.tmp 41) 3,type:=3,pos := "lens.go:97",after := #[{ on:=29,ground:=Ground.data },{ on:=23,ground:=Ground.guard }],guard:=some (23,false) }) rfl (by kernel_rfl) (by kernel_rfl) (by kernel_rfl) (fun _ _ _ h=>h) (Or.inl ⟨by rfl,fun W hSw=>by obtain ⟨hs1,hs2,hs3⟩:=hSw;go_simp⟩) hHeld ?_
 try simp only [Act.put,List.setIfInBounds_toArray,List.set_cons_zero,List.set_cons_succ]
 refine wpAnyH_take (i:=31) (v := .bool false) (oi:={ dst:=some 43,op:=Op.binOp BinOp.gtr 3 (Operand.tmp 39) (Operand.tmp 42) 3,type:=4,pos := "lens.go:97",after := #[{ on:=27,ground:=Ground.data },{ on:=30,ground:=Ground.data },{ on:=23,ground:=Ground.guard }],guard:=some (23,false) }) rfl (by kernel_rfl) (by kernel_rfl) (by kernel_rfl) (fun _ _ _ h=>h) (Or.inl ⟨by rfl,fun W hSw=>by obtain ⟨hs1,hs2,hs3⟩:=hSw;go_simp⟩) hHeld ?_
 try simp only [Act.put,List.setIfInBounds_toArray,List.set_cons_zero,List.set_cons_succ]
 refine wpAnyH_take (i:=32) (v := .bool false) (oi:={ dst:=some 44,op:=Op.pick (Operand.tmp 35) (Operand.const (Value.bool true)) (Operand.tmp 43),type:=4,pos := "lens.go:97",after := #[{ on:=23,ground:=Ground.data },{ on:=31,ground:=Ground.data }],guard:=none }) rfl (by kernel_rfl) (by kernel_rfl) (by kernel_rfl) (fun _ _ _ h=>h) (Or.inl ⟨by rfl,fun W hSw=>by obtain ⟨hs1,hs2,hs3⟩:=hSw;go_simp⟩) hHeld ?_
 try simp only [Act.put,List.setIfInBounds_toArray,List.set_cons_zero,List.set_cons_succ]
 refine wpAnyH_take (i:=33) (v := .bool false) (oi:={ dst:=some 3,op:=Op.assign (Operand.tmp 44),type:=4,pos := "lens.go:97",after := #[{ on:=32,ground:=Ground.data },{ on:=23,ground:=Ground.chain },{ on:=0,ground:=Ground.phase },{ on:=1,ground:=Ground.phase },{ on:=2,ground:=Ground.phase },{ on:=3,ground:=Ground.phase },{ on:=4,ground:=Ground.phase },{ on:=5,ground:=Ground.phase },{ on:=6,ground:=Ground.phase },{ on:=7,ground:=Ground.phase },{ on:=8,ground:=Ground.phase },{ on:=9,ground:=Ground.phase },{ on:=10,ground:=Ground.phase },{ on:=11,ground:=Ground.phase },{ on:=12,ground:=Ground.phase },{ on:=13,ground:=Ground.phase },{ on:=14,ground:=Ground.phase },{ on:=15,ground:=Ground.phase },{ on:=16,ground:=Ground.phase },{ on:=17,ground:=Ground.phase },{ on:=18,ground:=Ground.phase },{ on:=19,ground:=Ground.phase },{ on:=20,ground:=Ground.phase },{ on:=21,ground:=Ground.phase },{ on:=22,ground:=Ground.phase },{ on:=23,ground:=Ground.phase },{ on:=24,ground:=Ground.phase },{ on:=25,ground:=Ground.phase },{ on:=26,ground:=Ground.phase },{ on:=27,ground:=Ground.phase },{ on:=28,ground:=Ground.phase },{ on:=29,ground:=Ground.phase },{ on:=30,ground:=Ground.phase },{ on:=31,ground:=Ground.phase },{ on:=32,ground:=Ground.phase }],guard:=none }) rfl (by kernel_rfl) (by kernel_rfl) (by kernel_rfl) (fun _ _ _ h=>h) (Or.inl ⟨by rfl,fun W hSw=>by obtain ⟨hs1,hs2,hs3⟩:=hSw;go_simp⟩) hHeld ?_
 try simp only [Act.put,List.setIfInBounds_toArray,List.set_cons_zero,List.set_cons_succ]
 refine wpAnyH_done (by kernel_rfl) ?_ _
 clear hHeld
 go_wp2
 go_ret
 exact ⟨rfl,HF.out _ HB2.out⟩
set_option maxHeartbeats 4000000 in
set_option maxRecDepth 100000 in
theorem wr_f (g n c l m d:Nat) (ao:Option Addr) (s x u y:Int) (w:World) (hg:w.cell? ⟨g,0,none⟩=some (.slice ao n c)) (hl:spl s=l) (hm:spm s=m) (_e1:IntKind.i64.wrap ((m:Int)-l)=d)
  (_e2:IntKind.i64.wrap ((l:Int)+x)=u) (_e3:IntKind.i64.wrap ((320:Int)-n)=y) (h1:¬Bad 0 18 s) (h2:¬Bad 0 d x) (h3:(s == 16)=false) (h5:decide (y<u)=true) :
  Calls Tryz.prog 192 #[.agg #[.int .i64 s,.int .i64 x],.pointer (some ⟨g,0,none⟩)] w (Wrote w true):=by
 have HGL:=Lib.hid (World.block_lt_of_cell? w _ hg)
 have HG:=Lib.hid hg
 have HSP:=Lib.hid (And.intro hl hm)
 have H1:=Lib.hid h1
 have H2:=Lib.hid h2
 clear h1 h2
 clear hl hm hg
 obtain ⟨B,hB⟩:∃ B,B=w.heap.size:=⟨_,rfl⟩
 have HC:Hid (∀ W,Below (B+1) (w.alloc (.cells #[.int .i64 s,.int .i64 x] 252)) W→W.cell? ⟨B,0,none⟩=some (.int .i64 s)∧W.cell? ⟨B,1,none⟩=some (.int .i64 x)∧W.cell? ⟨g,0,none⟩=some (.slice ao n c)):=Lib.hid fun W hb=>by
  subst hB
  refine ⟨(hb.cell (p:=⟨_,0,none⟩) (Nat.lt_succ_self _)).trans ?_,(hb.cell (p:=⟨_,1,none⟩) (Nat.lt_succ_self _)).trans ?_,(hb.cell (p:=⟨g,0,none⟩) (Nat.lt_succ_of_lt HGL.out)).trans ?_⟩
  ·simp
  ·simp
  ·have h1:g≠w.heap.size:=Nat.ne_of_lt HGL.out
   have h2:=HG.out
   simp [World.cell?_alloc_old,h1,h2]
 have HB0:Hid (Below (B+1) (w.alloc (.cells #[.int .i64 s,.int .i64 x] 252)) (w.alloc (.cells #[.int .i64 s,.int .i64 x] 252)).drew):=Lib.hid (by
  subst hB
  have h:=(Below.refl (w.alloc (.cells #[.int .i64 s,.int .i64 x] 252)).heap.size (w.alloc (.cells #[.int .i64 s,.int .i64 x] 252))).drew
  simpa using h)
 have HF:Hid (∀ W,Below (B+1) (w.alloc (.cells #[.int .i64 s,.int .i64 x] 252)) W→Below w.heap.size w W):=Lib.hid fun W hb=>by
  subst hB
  exact ((Below.refl _ w).alloc (Nat.le_refl _) _).trans (hb.mono (Nat.le_succ _))
 have HSZ:Hid (B+1≤(w.alloc (.cells #[.int .i64 s,.int .i64 x] 252)).heap.size):=Lib.hid (by subst hB;simp)
 go_enter Tryz.func192,Tryz.ntmps192
 go_upto_region 2 with (go_at_call 193;refine (span_any _ _).mono ?_;rintro e w5 ⟨rfl,rfl⟩;rw [HSP.out.1,HSP.out.2])
 rw [←hB]
 clear hB
 generalize (w.alloc (.cells #[.int .i64 s,.int .i64 x] 252))=w3 at *
 refine wp_region_held_drew (S:=fun W=>W.cell? ⟨B,0,none⟩=some (.int .i64 s)∧W.cell? ⟨B,1,none⟩=some (.int .i64 x)∧W.cell? ⟨g,0,none⟩=some (.slice ao n c)) (by kernel_rfl) (HC.out _ HB0.out) (fun hHeld=>?_)
 refine wpAnyH_take (i:=1) (v := .pointer (some ⟨B,0,none⟩)) (oi:={ dst:=some 13,op:=Op.fieldAddr 252 (Operand.tmp 2) 0,type:=0,pos := "lens.go:97",after := #[],guard:=none }) rfl (by kernel_rfl) (by kernel_rfl) (by kernel_rfl) (fun _ _ _ h=>h) (Or.inl ⟨by rfl,fun W hSw=>by obtain ⟨hs1,hs2,hs3⟩:=hSw;go_simp⟩) hHeld ?_
 try simp only [Act.put,List.setIfInBounds_toArray,List.set_cons_zero,List.set_cons_succ]
 refine wpAnyH_take (i:=2) (v := .int .i64 s) (oi:={ dst:=some 14,op:=Op.load 3 (Operand.tmp 13),type:=3,pos := "lens.go:97",after := #[{ on:=1,ground:=Ground.data }],guard:=none }) rfl (by kernel_rfl) (by kernel_rfl) (by kernel_rfl) (fun _ _ _ h=>h) (Or.inl ⟨by rfl,fun W hSw=>by obtain ⟨hs1,hs2,hs3⟩:=hSw;go_simp⟩) hHeld ?_
 try simp only [Act.put,List.setIfInBounds_toArray,List.set_cons_zero,List.set_cons_succ]
 refine wpAnyH_ready (rs:=[0]) (by kernel_rfl) (by simp) ?_
 refine AllReadyH.cons (o:={ dst:=some 12,op:=Op.call { callee:=Callee.value (Operand.func 194),args := #[Operand.const (Value.int IntKind.i64 0),Operand.const (Value.int IntKind.i64 18)],argTypes := #[3,3] },type:=174,pos := "lens.go:97",after := #[],guard:=none }) rfl (fun K hK=>?_) AllReadyH.nil
 refine step_call (by rfl) _ _ (run_call2 (.func 194) (.const (.int .i64 0)) (.const (.int .i64 18)) _ 194 #[] (.int .i64 0) (.int .i64 18) (fun _=>enter21 _ _) rfl rfl rfl rfl) (fun v W=>∃ p q,v=fnOut p q∧Kept W p q 0 18∧Below (B+1) w3 W) ?_ ?_
 ·refine (outside_any 0 18 _).mono ?_
  rintro e w1 ⟨p,q,rfl,hk,hb,hp,hq⟩
  exact ⟨_,rfl,p,q,rfl,hk,HB0.out.trans (hb.mono (Nat.le_trans HSZ.out HB0.out.size))⟩
 rintro v1 w1 ⟨p1,q1,rfl,hk,hb⟩
 have HK1:=Lib.hid hk
 have HB1:=Lib.hid hb
 clear hk hb
 refine hK.out _ _ (HC.out _ HB1.out) (fun hHeld=>?_)
 clear hK K
 try simp only [Act.put,List.setIfInBounds_toArray,List.set_cons_zero,List.set_cons_succ]
 refine wpAnyH_ready (rs:=[3]) (by kernel_rfl) (by simp) ?_
 refine AllReadyH.cons (o:={ dst:=some 15,op:=Op.call { callee:=Callee.value (Operand.tmp 12),args := #[Operand.tmp 14],argTypes := #[3] },type:=4,pos := "lens.go:97",after := #[{ on:=0,ground:=Ground.data },{ on:=2,ground:=Ground.data },{ on:=0,ground:=Ground.chain }],guard:=none }) rfl (fun K hK=>?_) AllReadyH.nil
 refine step_call (by rfl) _ _ (run_call1 (.tmp 12) (.tmp 14) _ 197 #[.pointer (some ⟨p1,0,none⟩),.pointer (some ⟨q1,0,none⟩)] (.int .i64 s) (fun _=>enter35 _ _) rfl rfl rfl) (fun v W=>v = .bool false∧W=w1) ?_ ?_
 ·refine (bad_no p1 q1 0 18 s _ HK1.out H1.out).mono ?_
  rintro e W ⟨rfl,rfl⟩
  exact ⟨_,rfl,rfl,rfl⟩
 rintro v W ⟨rfl,rfl⟩
 refine hK.out _ _ (HC.out _ HB1.out) (fun hHeld=>?_)
 clear hK K
 try simp only [Act.put,List.setIfInBounds_toArray,List.set_cons_zero,List.set_cons_succ]
 refine wpAnyH_take (i:=4) (v := .bool false) (oi:={ dst:=some 16,op:=Op.move (Operand.tmp 15),type:=4,pos := "lens.go:97",after := #[{ on:=3,ground:=Ground.data },{ on:=3,ground:=Ground.chain }],guard:=none }) rfl (by kernel_rfl) (by kernel_rfl) (by kernel_rfl) (fun _ _ _ h=>h) (Or.inl ⟨by rfl,fun W hSw=>by obtain ⟨hs1,hs2,hs3⟩:=hSw;go_simp⟩) hHeld ?_
 try simp only [Act.put,List.setIfInBounds_toArray,List.set_cons_zero,List.set_cons_succ]
 refine wpAnyH_take (i:=5) (v := .int .i64 m) (oi:={ dst:=some 17,op:=Op.move (Operand.tmp 5),type:=3,pos := "lens.go:97",after := #[{ on:=4,ground:=Ground.guard }],guard:=some (4,false) }) rfl (by kernel_rfl) (by kernel_rfl) (by kernel_rfl) (fun _ _ _ h=>h) (Or.inl ⟨by rfl,fun W hSw=>by obtain ⟨hs1,hs2,hs3⟩:=hSw;go_simp⟩) hHeld ?_
 try simp only [Act.put,List.setIfInBounds_toArray,List.set_cons_zero,List.set_cons_succ]
 refine wpAnyH_take (i:=6) (v := .int .i64 l) (oi:={ dst:=some 18,op:=Op.move (Operand.tmp 4),type:=3,pos := "lens.go:97",after := #[{ on:=4,ground:=Ground.guard }],guard:=some (4,false) }) rfl (by kernel_rfl) (by kernel_rfl) (by kernel_rfl) (fun _ _ _ h=>h) (Or.inl ⟨by rfl,fun W hSw=>by obtain ⟨hs1,hs2,hs3⟩:=hSw;go_simp⟩) hHeld ?_
 try simp only [Act.put,List.setIfInBounds_toArray,List.set_cons_zero,List.set_cons_succ]
 refine wpAnyH_take (i:=7) (v := .int .i64 d) (oi:={ dst:=some 19,op:=Op.binOp BinOp.sub 3 (Operand.tmp 17) (Operand.tmp 18) 3,type:=3,pos := "lens.go:97",after := #[{ on:=5,ground:=Ground.data },{ on:=6,ground:=Ground.data },{ on:=4,ground:=Ground.guard }],guard:=some (4,false) }) rfl (by kernel_rfl) (by kernel_rfl) (by kernel_rfl) (fun _ _ _ h=>h) (Or.inl ⟨by rfl,fun W hSw=>by obtain ⟨hs1,hs2,hs3⟩:=hSw;go_simp⟩) hHeld ?_
 try simp only [Act.put,List.setIfInBounds_toArray,List.set_cons_zero,List.set_cons_succ]
 refine wpAnyH_take (i:=9) (v := .pointer (some ⟨B,1,none⟩)) (oi:={ dst:=some 21,op:=Op.fieldAddr 252 (Operand.tmp 2) 1,type:=0,pos := "lens.go:97",after := #[{ on:=4,ground:=Ground.guard }],guard:=some (4,false) }) rfl (by kernel_rfl) (by kernel_rfl) (by kernel_rfl) (fun _ _ _ h=>h) (Or.inl ⟨by rfl,fun W hSw=>by obtain ⟨hs1,hs2,hs3⟩:=hSw;go_simp⟩) hHeld ?_
 try simp only [Act.put,List.setIfInBounds_toArray,List.set_cons_zero,List.set_cons_succ]
 refine wpAnyH_take (i:=10) (v := .int .i64 x) (oi:={ dst:=some 22,op:=Op.load 3 (Operand.tmp 21),type:=3,pos := "lens.go:97",after := #[{ on:=9,ground:=Ground.data },{ on:=4,ground:=Ground.guard }],guard:=some (4,false) }) rfl (by kernel_rfl) (by kernel_rfl) (by kernel_rfl) (fun _ _ _ h=>h) (Or.inl ⟨by rfl,fun W hSw=>by obtain ⟨hs1,hs2,hs3⟩:=hSw;go_simp⟩) hHeld ?_
 try simp only [Act.put,List.setIfInBounds_toArray,List.set_cons_zero,List.set_cons_succ]
 refine wpAnyH_ready (rs:=[8]) (by kernel_rfl) (by simp) ?_
 refine AllReadyH.cons (o:={ dst:=some 20,op:=Op.call { callee:=Callee.value (Operand.func 194),args := #[Operand.const (Value.int IntKind.i64 0),Operand.tmp 19],argTypes := #[3,3] },type:=174,pos := "lens.go:97",after := #[{ on:=7,ground:=Ground.data },{ on:=4,ground:=Ground.chain },{ on:=4,ground:=Ground.guard }],guard:=some (4,false) }) rfl (fun K hK=>?_) AllReadyH.nil
 refine step_call (by rfl) _ _ (run_call2 (.func 194) (.const (.int .i64 0)) (.tmp 19) _ 194 #[] (.int .i64 0) (.int .i64 d) (fun _=>enter21 _ _) rfl rfl rfl rfl) (fun v W=>∃ p q,v=fnOut p q∧Kept W p q 0 d∧Below (B+1) w3 W) ?_ ?_
 ·refine (outside_any 0 d _).mono ?_
  rintro e w2 ⟨p,q,rfl,hk,hb,hp,hq⟩
  exact ⟨_,rfl,p,q,rfl,hk,HB1.out.trans (hb.mono (Nat.le_trans HSZ.out HB1.out.size))⟩
 rintro v2 w2 ⟨p2,q2,rfl,hk,hb⟩
 have HK2:=Lib.hid hk
 have HB2:=Lib.hid hb
 clear hk hb
 refine hK.out _ _ (HC.out _ HB2.out) (fun hHeld=>?_)
 clear hK K
 try simp only [Act.put,List.setIfInBounds_toArray,List.set_cons_zero,List.set_cons_succ]
 refine wpAnyH_ready (rs:=[11]) (by kernel_rfl) (by simp) ?_
 refine AllReadyH.cons (o:={ dst:=some 23,op:=Op.call { callee:=Callee.value (Operand.tmp 20),args := #[Operand.tmp 22],argTypes := #[3] },type:=4,pos := "lens.go:97",after := #[{ on:=8,ground:=Ground.data },{ on:=10,ground:=Ground.data },{ on:=8,ground:=Ground.chain },{ on:=4,ground:=Ground.guard }],guard:=some (4,false) }) rfl (fun K hK=>?_) AllReadyH.nil
 refine step_call (by rfl) _ _ (run_call1 (.tmp 20) (.tmp 22) _ 197 #[.pointer (some ⟨p2,0,none⟩),.pointer (some ⟨q2,0,none⟩)] (.int .i64 x) (fun _=>enter35 _ _) rfl rfl rfl) (fun v W=>v = .bool false∧W=w2) ?_ ?_
 ·refine (bad_no p2 q2 0 d x _ HK2.out H2.out).mono ?_
  rintro e W ⟨rfl,rfl⟩
  exact ⟨_,rfl,rfl,rfl⟩
 rintro v W ⟨rfl,rfl⟩
 refine hK.out _ _ (HC.out _ HB2.out) (fun hHeld=>?_)
 clear hK K
 try simp only [Act.put,List.setIfInBounds_toArray,List.set_cons_zero,List.set_cons_succ]
 refine wpAnyH_take (i:=12) (v := .bool false) (oi:={ dst:=some 24,op:=Op.pick (Operand.tmp 16) (Operand.const (Value.bool true)) (Operand.tmp 23),type:=4,pos := "lens.go:97",after := #[{ on:=4,ground:=Ground.data },{ on:=11,ground:=Ground.data }],guard:=none }) rfl (by kernel_rfl) (by kernel_rfl) (by kernel_rfl) (fun _ _ _ h=>h) (Or.inl ⟨by rfl,fun W hSw=>by obtain ⟨hs1,hs2,hs3⟩:=hSw;go_simp⟩) hHeld ?_
 try simp only [Act.put,List.setIfInBounds_toArray,List.set_cons_zero,List.set_cons_succ]
 refine wpAnyH_take (i:=13) (v := .bool false) (oi:={ dst:=some 25,op:=Op.move (Operand.tmp 24),type:=4,pos := "lens.go:97",after := #[{ on:=12,ground:=Ground.data },{ on:=11,ground:=Ground.chain }],guard:=none }) rfl (by kernel_rfl) (by kernel_rfl) (by kernel_rfl) (fun _ _ _ h=>h) (Or.inl ⟨by rfl,fun W hSw=>by obtain ⟨hs1,hs2,hs3⟩:=hSw;go_simp⟩) hHeld ?_
 try simp only [Act.put,List.setIfInBounds_toArray,List.set_cons_zero,List.set_cons_succ]
 refine wpAnyH_take (i:=14) (v := .pointer (some ⟨B,0,none⟩)) (oi:={ dst:=some 26,op:=Op.fieldAddr 252 (Operand.tmp 2) 0,type:=0,pos := "lens.go:97",after := #[{ on:=13,ground:=Ground.guard }],guard:=some (13,false) }) rfl (by kernel_rfl) (by kernel_rfl) (by kernel_rfl) (fun _ _ _ h=>h) (Or.inl ⟨by rfl,fun W hSw=>by obtain ⟨hs1,hs2,hs3⟩:=hSw;go_simp⟩) hHeld ?_
 try simp only [Act.put,List.setIfInBounds_toArray,List.set_cons_zero,List.set_cons_succ]
 refine wpAnyH_take (i:=15) (v := .int .i64 s) (oi:={ dst:=some 27,op:=Op.load 3 (Operand.tmp 26),type:=3,pos := "lens.go:97",after := #[{ on:=14,ground:=Ground.data },{ on:=13,ground:=Ground.guard }],guard:=some (13,false) }) rfl (by kernel_rfl) (by kernel_rfl) (by kernel_rfl) (fun _ _ _ h=>h) (Or.inl ⟨by rfl,fun W hSw=>by obtain ⟨hs1,hs2,hs3⟩:=hSw;go_simp⟩) hHeld ?_
 try simp only [Act.put,List.setIfInBounds_toArray,List.set_cons_zero,List.set_cons_succ]
 refine wpAnyH_take (i:=16) (v := .bool false) (oi:={ dst:=some 28,op:=Op.binOp BinOp.eql 3 (Operand.tmp 27) (Operand.const (Value.int IntKind.i64 16)) 3,type:=4,pos := "lens.go:97",after := #[{ on:=15,ground:=Ground.data },{ on:=13,ground:=Ground.guard }],guard:=some (13,false) }) rfl (by kernel_rfl) (by kernel_rfl) (by kernel_rfl) (fun _ _ _ h=>h) (Or.inl ⟨by rfl,fun W hSw=>by obtain ⟨hs1,hs2,hs3⟩:=hSw;go_simp⟩) hHeld ?_
 try simp only [Act.put,List.setIfInBounds_toArray,List.set_cons_zero,List.set_cons_succ]
 refine wpAnyH_take (i:=17) (v := .bool false) (oi:={ dst:=some 29,op:=Op.move (Operand.tmp 28),type:=4,pos := "lens.go:97",after := #[{ on:=16,ground:=Ground.data },{ on:=13,ground:=Ground.chain },{ on:=13,ground:=Ground.guard }],guard:=some (13,false) }) rfl (by kernel_rfl) (by kernel_rfl) (by kernel_rfl) (fun _ _ _ h=>h) (Or.inl ⟨by rfl,fun W hSw=>by obtain ⟨hs1,hs2,hs3⟩:=hSw;go_simp⟩) hHeld ?_
 try simp only [Act.put,List.setIfInBounds_toArray,List.set_cons_zero,List.set_cons_succ]
 refine wpAnyH_take (i:=18) (v:=undef) (oi:={ dst:=some 30,op:=Op.load 88 (Operand.tmp 1),type:=88,pos := "lens.go:97",after := #[{ on:=17,ground:=Ground.guard }],guard:=some (17,true) }) rfl (by kernel_rfl) (by kernel_rfl) (by kernel_rfl) (fun _ _ _ h=>h) (Or.inr ⟨by rfl,rfl⟩) hHeld ?_
 try simp only [Act.put,List.setIfInBounds_toArray,List.set_cons_zero,List.set_cons_succ]
 refine wpAnyH_take (i:=19) (v:=undef) (oi:={ dst:=some 31,op:=Op.call { callee:=Callee.builtin Builtin.len,args := #[Operand.tmp 30],argTypes := #[88] },type:=3,pos := "lens.go:97",after := #[{ on:=18,ground:=Ground.data },{ on:=17,ground:=Ground.guard }],guard:=some (17,true) }) rfl (by kernel_rfl) (by kernel_rfl) (by kernel_rfl) (fun _ _ _ h=>h) (Or.inr ⟨by rfl,rfl⟩) hHeld ?_
 try simp only [Act.put,List.setIfInBounds_toArray,List.set_cons_zero,List.set_cons_succ]
 refine wpAnyH_take (i:=20) (v:=undef) (oi:={ dst:=some 32,op:=Op.binOp BinOp.eql 3 (Operand.tmp 31) (Operand.const (Value.int IntKind.i64 0)) 3,type:=4,pos := "lens.go:97",after := #[{ on:=19,ground:=Ground.data },{ on:=17,ground:=Ground.guard }],guard:=some (17,true) }) rfl (by kernel_rfl) (by kernel_rfl) (by kernel_rfl) (fun _ _ _ h=>h) (Or.inr ⟨by rfl,rfl⟩) hHeld ?_
 try simp only [Act.put,List.setIfInBounds_toArray,List.set_cons_zero,List.set_cons_succ]
 refine wpAnyH_take (i:=21) (v := .bool false) (oi:={ dst:=some 33,op:=Op.pick (Operand.tmp 29) (Operand.tmp 32) (Operand.const (Value.bool false)),type:=4,pos := "lens.go:97",after := #[{ on:=17,ground:=Ground.data },{ on:=20,ground:=Ground.data },{ on:=13,ground:=Ground.guard }],guard:=some (13,false) }) rfl (by kernel_rfl) (by kernel_rfl) (by kernel_rfl) (fun _ _ _ h=>h) (Or.inl ⟨by rfl,fun W hSw=>by obtain ⟨hs1,hs2,hs3⟩:=hSw;go_simp⟩) hHeld ?_
 try simp only [Act.put,List.setIfInBounds_toArray,List.set_cons_zero,List.set_cons_succ]
 refine wpAnyH_take (i:=22) (v := .bool false) (oi:={ dst:=some 34,op:=Op.pick (Operand.tmp 25) (Operand.const (Value.bool true)) (Operand.tmp 33),type:=4,pos := "lens.go:97",after := #[{ on:=13,ground:=Ground.data },{ on:=21,ground:=Ground.data }],guard:=none }) rfl (by kernel_rfl) (by kernel_rfl) (by kernel_rfl) (fun _ _ _ h=>h) (Or.inl ⟨by rfl,fun W hSw=>by obtain ⟨hs1,hs2,hs3⟩:=hSw;go_simp⟩) hHeld ?_
 try simp only [Act.put,List.setIfInBounds_toArray,List.set_cons_zero,List.set_cons_succ]
 refine wpAnyH_take (i:=23) (v := .bool false) (oi:={ dst:=some 35,op:=Op.move (Operand.tmp 34),type:=4,pos := "lens.go:97",after := #[{ on:=22,ground:=Ground.data },{ on:=17,ground:=Ground.chain }],guard:=none }) rfl (by kernel_rfl) (by kernel_rfl) (by kernel_rfl) (fun _ _ _ h=>h) (Or.inl ⟨by rfl,fun W hSw=>by obtain ⟨hs1,hs2,hs3⟩:=hSw;go_simp⟩) hHeld ?_
 try simp only [Act.put,List.setIfInBounds_toArray,List.set_cons_zero,List.set_cons_succ]
 refine wpAnyH_take (i:=24) (v := .int .i64 l) (oi:={ dst:=some 36,op:=Op.move (Operand.tmp 4),type:=3,pos := "lens.go:97",after := #[{ on:=23,ground:=Ground.guard }],guard:=some (23,false) }) rfl (by kernel_rfl) (by kernel_rfl) (by kernel_rfl) (fun _ _ _ h=>h) (Or.inl ⟨by rfl,fun W hSw=>by obtain ⟨hs1,hs2,hs3⟩:=hSw;go_simp⟩) hHeld ?_
 try simp only [Act.put,List.setIfInBounds_toArray,List.set_cons_zero,List.set_cons_succ]
 refine wpAnyH_take (i:=25) (v := .pointer (some ⟨B,1,none⟩)) (oi:={ dst:=some 37,op:=Op.fieldAddr 252 (Operand.tmp 2) 1,type:=0,pos := "lens.go:97",after := #[{ on:=23,ground:=Ground.guard }],guard:=some (23,false) }) rfl (by kernel_rfl) (by kernel_rfl) (by kernel_rfl) (fun _ _ _ h=>h) (Or.inl ⟨by rfl,fun W hSw=>by obtain ⟨hs1,hs2,hs3⟩:=hSw;go_simp⟩) hHeld ?_
 try simp only [Act.put,List.setIfInBounds_toArray,List.set_cons_zero,List.set_cons_succ]
 refine wpAnyH_take (i:=26) (v := .int .i64 x) (oi:={ dst:=some 38,op:=Op.load 3 (Operand.tmp 37),type:=3,pos := "lens.go:97",after := #[{ on:=25,ground:=Ground.data },{ on:=23,ground:=Ground.guard }],guard:=some (23,false) }) rfl (by kernel_rfl) (by kernel_rfl) (by kernel_rfl) (fun _ _ _ h=>h) (Or.inl ⟨by rfl,fun W hSw=>by obtain ⟨hs1,hs2,hs3⟩:=hSw;go_simp⟩) hHeld ?_
 try simp only [Act.put,List.setIfInBounds_toArray,List.set_cons_zero,List.set_cons_succ]
 refine wpAnyH_take (i:=27) (v := .int .i64 u) (oi:={ dst:=some 39,op:=Op.binOp BinOp.add 3 (Operand.tmp 36) (Operand.tmp 38) 3,type:=3,pos := "lens.go:97",after := #[{ on:=24,ground:=Ground.data },{ on:=26,ground:=Ground.data },{ on:=23,ground:=Ground.guard }],guard:=some (23,false) }) rfl (by kernel_rfl) (by kernel_rfl) (by kernel_rfl) (fun _ _ _ h=>h) (Or.inl ⟨by rfl,fun W hSw=>by obtain ⟨hs1,hs2,hs3⟩:=hSw;go_simp⟩) hHeld ?_
 try simp only [Act.put,List.setIfInBounds_toArray,List.set_cons_zero,List.set_cons_succ]
 refine wpAnyH_take (i:=28) (v := .slice ao n c) (oi:={ dst:=some 40,op:=Op.load 88 (Operand.tmp 1),type:=88,pos := "lens.go:97",after := #[{ on:=23,ground:=Ground.guard }],guard:=some (23,false) }) rfl (by kernel_rfl) (by kernel_rfl) (by kernel_rfl) (fun _ _ _ h=>h) (Or.inl ⟨by rfl,fun W hSw=>by obtain ⟨hs1,hs2,hs3⟩:=hSw;go_simp⟩) hHeld ?_
 try simp only [Act.put,List.setIfInBounds_toArray,List.set_cons_zero,List.set_cons_succ]
 refine wpAnyH_take (i:=29) (v := .int .i64 n) (oi:={ dst:=some 41,op:=Op.call { callee:=Callee.builtin Builtin.len,args := #[Operand.tmp 40],argTypes := #[88] },type:=3,pos := "lens.go:97",after := #[{ on:=28,ground:=Ground.data },{ on:=23,ground:=Ground.guard }],guard:=some (23,false) }) rfl (by kernel_rfl) (by kernel_rfl) (by kernel_rfl) (fun _ _ _ h=>h) (Or.inl ⟨by rfl,fun W hSw=>by obtain ⟨hs1,hs2,hs3⟩:=hSw;go_simp⟩) hHeld ?_
 try simp only [Act.put,List.setIfInBounds_toArray,List.set_cons_zero,List.set_cons_succ]
 refine wpAnyH_take (i:=30) (v := .int .i64 y) (oi:={ dst:=some 42,op:=Op.binOp BinOp.sub 3 (Operand.const (Value.int IntKind.i64 320)) (Operand.tmp 41) 3,type:=3,pos := "lens.go:97",after := #[{ on:=29,ground:=Ground.data },{ on:=23,ground:=Ground.guard }],guard:=some (23,false) }) rfl (by kernel_rfl) (by kernel_rfl) (by kernel_rfl) (fun _ _ _ h=>h) (Or.inl ⟨by rfl,fun W hSw=>by obtain ⟨hs1,hs2,hs3⟩:=hSw;go_simp⟩) hHeld ?_
 try simp only [Act.put,List.setIfInBounds_toArray,List.set_cons_zero,List.set_cons_succ]
 refine wpAnyH_take (i:=31) (v := .bool true) (oi:={ dst:=some 43,op:=Op.binOp BinOp.gtr 3 (Operand.tmp 39) (Operand.tmp 42) 3,type:=4,pos := "lens.go:97",after := #[{ on:=27,ground:=Ground.data },{ on:=30,ground:=Ground.data },{ on:=23,ground:=Ground.guard }],guard:=some (23,false) }) rfl (by kernel_rfl) (by kernel_rfl) (by kernel_rfl) (fun _ _ _ h=>h) (Or.inl ⟨by rfl,fun W hSw=>by obtain ⟨hs1,hs2,hs3⟩:=hSw;go_simp⟩) hHeld ?_
 try simp only [Act.put,List.setIfInBounds_toArray,List.set_cons_zero,List.set_cons_succ]
 refine wpAnyH_take (i:=32) (v := .bool true) (oi:={ dst:=some 44,op:=Op.pick (Operand.tmp 35) (Operand.const (Value.bool true)) (Operand.tmp 43),type:=4,pos := "lens.go:97",after := #[{ on:=23,ground:=Ground.data },{ on:=31,ground:=Ground.data }],guard:=none }) rfl (by kernel_rfl) (by kernel_rfl) (by kernel_rfl) (fun _ _ _ h=>h) (Or.inl ⟨by rfl,fun W hSw=>by obtain ⟨hs1,hs2,hs3⟩:=hSw;go_simp⟩) hHeld ?_
 try simp only [Act.put,List.setIfInBounds_toArray,List.set_cons_zero,List.set_cons_succ]
 refine wpAnyH_take (i:=33) (v := .bool true) (oi:={ dst:=some 3,op:=Op.assign (Operand.tmp 44),type:=4,pos := "lens.go:97",after := #[{ on:=32,ground:=Ground.data },{ on:=23,ground:=Ground.chain },{ on:=0,ground:=Ground.phase },{ on:=1,ground:=Ground.phase },{ on:=2,ground:=Ground.phase },{ on:=3,ground:=Ground.phase },{ on:=4,ground:=Ground.phase },{ on:=5,ground:=Ground.phase },{ on:=6,ground:=Ground.phase },{ on:=7,ground:=Ground.phase },{ on:=8,ground:=Ground.phase },{ on:=9,ground:=Ground.phase },{ on:=10,ground:=Ground.phase },{ on:=11,ground:=Ground.phase },{ on:=12,ground:=Ground.phase },{ on:=13,ground:=Ground.phase },{ on:=14,ground:=Ground.phase },{ on:=15,ground:=Ground.phase },{ on:=16,ground:=Ground.phase },{ on:=17,ground:=Ground.phase },{ on:=18,ground:=Ground.phase },{ on:=19,ground:=Ground.phase },{ on:=20,ground:=Ground.phase },{ on:=21,ground:=Ground.phase },{ on:=22,ground:=Ground.phase },{ on:=23,ground:=Ground.phase },{ on:=24,ground:=Ground.phase },{ on:=25,ground:=Ground.phase },{ on:=26,ground:=Ground.phase },{ on:=27,ground:=Ground.phase },{ on:=28,ground:=Ground.phase },{ on:=29,ground:=Ground.phase },{ on:=30,ground:=Ground.phase },{ on:=31,ground:=Ground.phase },{ on:=32,ground:=Ground.phase }],guard:=none }) rfl (by kernel_rfl) (by kernel_rfl) (by kernel_rfl) (fun _ _ _ h=>h) (Or.inl ⟨by rfl,fun W hSw=>by obtain ⟨hs1,hs2,hs3⟩:=hSw;go_simp⟩) hHeld ?_
 try simp only [Act.put,List.setIfInBounds_toArray,List.set_cons_zero,List.set_cons_succ]
 refine wpAnyH_done (by kernel_rfl) ?_ _
 clear hHeld
 go_wp2
 go_ret
 exact ⟨rfl,HF.out _ HB2.out⟩
set_option maxHeartbeats 4000000 in
set_option maxRecDepth 100000 in
theorem wr_g (g n c l m d:Nat) (ao:Option Addr) (s x u y:Int) (w:World) (hg:w.cell? ⟨g,0,none⟩=some (.slice ao n c)) (hl:spl s=l) (hm:spm s=m) (_e1:IntKind.i64.wrap ((m:Int)-l)=d)
  (_e2:IntKind.i64.wrap ((l:Int)+x)=u) (_e3:IntKind.i64.wrap ((320:Int)-n)=y) (h1:¬Bad 0 18 s) (h2:¬Bad 0 d x) (h3:(s == 16)=false) (h5:decide (y<u)=false) :
  Calls Tryz.prog 192 #[.agg #[.int .i64 s,.int .i64 x],.pointer (some ⟨g,0,none⟩)] w (Wrote w false):=by
 have HGL:=Lib.hid (World.block_lt_of_cell? w _ hg)
 have HG:=Lib.hid hg
 have HSP:=Lib.hid (And.intro hl hm)
 have H1:=Lib.hid h1
 have H2:=Lib.hid h2
 clear h1 h2
 clear hl hm hg
 obtain ⟨B,hB⟩:∃ B,B=w.heap.size:=⟨_,rfl⟩
 have HC:Hid (∀ W,Below (B+1) (w.alloc (.cells #[.int .i64 s,.int .i64 x] 252)) W→W.cell? ⟨B,0,none⟩=some (.int .i64 s)∧W.cell? ⟨B,1,none⟩=some (.int .i64 x)∧W.cell? ⟨g,0,none⟩=some (.slice ao n c)):=Lib.hid fun W hb=>by
  subst hB
  refine ⟨(hb.cell (p:=⟨_,0,none⟩) (Nat.lt_succ_self _)).trans ?_,(hb.cell (p:=⟨_,1,none⟩) (Nat.lt_succ_self _)).trans ?_,(hb.cell (p:=⟨g,0,none⟩) (Nat.lt_succ_of_lt HGL.out)).trans ?_⟩
  ·simp
  ·simp
  ·have h1:g≠w.heap.size:=Nat.ne_of_lt HGL.out
   have h2:=HG.out
   simp [World.cell?_alloc_old,h1,h2]
 have HB0:Hid (Below (B+1) (w.alloc (.cells #[.int .i64 s,.int .i64 x] 252)) (w.alloc (.cells #[.int .i64 s,.int .i64 x] 252)).drew):=Lib.hid (by
  subst hB
  have h:=(Below.refl (w.alloc (.cells #[.int .i64 s,.int .i64 x] 252)).heap.size (w.alloc (.cells #[.int .i64 s,.int .i64 x] 252))).drew
  simpa using h)
 have HF:Hid (∀ W,Below (B+1) (w.alloc (.cells #[.int .i64 s,.int .i64 x] 252)) W→Below w.heap.size w W):=Lib.hid fun W hb=>by
  subst hB
  exact ((Below.refl _ w).alloc (Nat.le_refl _) _).trans (hb.mono (Nat.le_succ _))
 have HSZ:Hid (B+1≤(w.alloc (.cells #[.int .i64 s,.int .i64 x] 252)).heap.size):=Lib.hid (by subst hB;simp)
 go_enter Tryz.func192,Tryz.ntmps192
 go_upto_region 2 with (go_at_call 193;refine (span_any _ _).mono ?_;rintro e w5 ⟨rfl,rfl⟩;rw [HSP.out.1,HSP.out.2])
 rw [←hB]
 clear hB
 generalize (w.alloc (.cells #[.int .i64 s,.int .i64 x] 252))=w3 at *
 refine wp_region_held_drew (S:=fun W=>W.cell? ⟨B,0,none⟩=some (.int .i64 s)∧W.cell? ⟨B,1,none⟩=some (.int .i64 x)∧W.cell? ⟨g,0,none⟩=some (.slice ao n c)) (by kernel_rfl) (HC.out _ HB0.out) (fun hHeld=>?_)
 refine wpAnyH_take (i:=1) (v := .pointer (some ⟨B,0,none⟩)) (oi:={ dst:=some 13,op:=Op.fieldAddr 252 (Operand.tmp 2) 0,type:=0,pos := "lens.go:97",after := #[],guard:=none }) rfl (by kernel_rfl) (by kernel_rfl) (by kernel_rfl) (fun _ _ _ h=>h) (Or.inl ⟨by rfl,fun W hSw=>by obtain ⟨hs1,hs2,hs3⟩:=hSw;go_simp⟩) hHeld ?_
 try simp only [Act.put,List.setIfInBounds_toArray,List.set_cons_zero,List.set_cons_succ]
 refine wpAnyH_take (i:=2) (v := .int .i64 s) (oi:={ dst:=some 14,op:=Op.load 3 (Operand.tmp 13),type:=3,pos := "lens.go:97",after := #[{ on:=1,ground:=Ground.data }],guard:=none }) rfl (by kernel_rfl) (by kernel_rfl) (by kernel_rfl) (fun _ _ _ h=>h) (Or.inl ⟨by rfl,fun W hSw=>by obtain ⟨hs1,hs2,hs3⟩:=hSw;go_simp⟩) hHeld ?_
 try simp only [Act.put,List.setIfInBounds_toArray,List.set_cons_zero,List.set_cons_succ]
 refine wpAnyH_ready (rs:=[0]) (by kernel_rfl) (by simp) ?_
 refine AllReadyH.cons (o:={ dst:=some 12,op:=Op.call { callee:=Callee.value (Operand.func 194),args := #[Operand.const (Value.int IntKind.i64 0),Operand.const (Value.int IntKind.i64 18)],argTypes := #[3,3] },type:=174,pos := "lens.go:97",after := #[],guard:=none }) rfl (fun K hK=>?_) AllReadyH.nil
 refine step_call (by rfl) _ _ (run_call2 (.func 194) (.const (.int .i64 0)) (.const (.int .i64 18)) _ 194 #[] (.int .i64 0) (.int .i64 18) (fun _=>enter21 _ _) rfl rfl rfl rfl) (fun v W=>∃ p q,v=fnOut p q∧Kept W p q 0 18∧Below (B+1) w3 W) ?_ ?_
 ·refine (outside_any 0 18 _).mono ?_
  rintro e w1 ⟨p,q,rfl,hk,hb,hp,hq⟩
  exact ⟨_,rfl,p,q,rfl,hk,HB0.out.trans (hb.mono (Nat.le_trans HSZ.out HB0.out.size))⟩
 rintro v1 w1 ⟨p1,q1,rfl,hk,hb⟩
 have HK1:=Lib.hid hk
 have HB1:=Lib.hid hb
 clear hk hb
 refine hK.out _ _ (HC.out _ HB1.out) (fun hHeld=>?_)
 clear hK K
 try simp only [Act.put,List.setIfInBounds_toArray,List.set_cons_zero,List.set_cons_succ]
 refine wpAnyH_ready (rs:=[3]) (by kernel_rfl) (by simp) ?_
 refine AllReadyH.cons (o:={ dst:=some 15,op:=Op.call { callee:=Callee.value (Operand.tmp 12),args := #[Operand.tmp 14],argTypes := #[3] },type:=4,pos := "lens.go:97",after := #[{ on:=0,ground:=Ground.data },{ on:=2,ground:=Ground.data },{ on:=0,ground:=Ground.chain }],guard:=none }) rfl (fun K hK=>?_) AllReadyH.nil
 refine step_call (by rfl) _ _ (run_call1 (.tmp 12) (.tmp 14) _ 197 #[.pointer (some ⟨p1,0,none⟩),.pointer (some ⟨q1,0,none⟩)] (.int .i64 s) (fun _=>enter35 _ _) rfl rfl rfl) (fun v W=>v = .bool false∧W=w1) ?_ ?_
 ·refine (bad_no p1 q1 0 18 s _ HK1.out H1.out).mono ?_
  rintro e W ⟨rfl,rfl⟩
  exact ⟨_,rfl,rfl,rfl⟩
 rintro v W ⟨rfl,rfl⟩
 refine hK.out _ _ (HC.out _ HB1.out) (fun hHeld=>?_)
 clear hK K
 try simp only [Act.put,List.setIfInBounds_toArray,List.set_cons_zero,List.set_cons_succ]
 refine wpAnyH_take (i:=4) (v := .bool false) (oi:={ dst:=some 16,op:=Op.move (Operand.tmp 15),type:=4,pos := "lens.go:97",after := #[{ on:=3,ground:=Ground.data },{ on:=3,ground:=Ground.chain }],guard:=none }) rfl (by kernel_rfl) (by kernel_rfl) (by kernel_rfl) (fun _ _ _ h=>h) (Or.inl ⟨by rfl,fun W hSw=>by obtain ⟨hs1,hs2,hs3⟩:=hSw;go_simp⟩) hHeld ?_
 try simp only [Act.put,List.setIfInBounds_toArray,List.set_cons_zero,List.set_cons_succ]
 refine wpAnyH_take (i:=5) (v := .int .i64 m) (oi:={ dst:=some 17,op:=Op.move (Operand.tmp 5),type:=3,pos := "lens.go:97",after := #[{ on:=4,ground:=Ground.guard }],guard:=some (4,false) }) rfl (by kernel_rfl) (by kernel_rfl) (by kernel_rfl) (fun _ _ _ h=>h) (Or.inl ⟨by rfl,fun W hSw=>by obtain ⟨hs1,hs2,hs3⟩:=hSw;go_simp⟩) hHeld ?_
 try simp only [Act.put,List.setIfInBounds_toArray,List.set_cons_zero,List.set_cons_succ]
 refine wpAnyH_take (i:=6) (v := .int .i64 l) (oi:={ dst:=some 18,op:=Op.move (Operand.tmp 4),type:=3,pos := "lens.go:97",after := #[{ on:=4,ground:=Ground.guard }],guard:=some (4,false) }) rfl (by kernel_rfl) (by kernel_rfl) (by kernel_rfl) (fun _ _ _ h=>h) (Or.inl ⟨by rfl,fun W hSw=>by obtain ⟨hs1,hs2,hs3⟩:=hSw;go_simp⟩) hHeld ?_
 try simp only [Act.put,List.setIfInBounds_toArray,List.set_cons_zero,List.set_cons_succ]
 refine wpAnyH_take (i:=7) (v := .int .i64 d) (oi:={ dst:=some 19,op:=Op.binOp BinOp.sub 3 (Operand.tmp 17) (Operand.tmp 18) 3,type:=3,pos := "lens.go:97",after := #[{ on:=5,ground:=Ground.data },{ on:=6,ground:=Ground.data },{ on:=4,ground:=Ground.guard }],guard:=some (4,false) }) rfl (by kernel_rfl) (by kernel_rfl) (by kernel_rfl) (fun _ _ _ h=>h) (Or.inl ⟨by rfl,fun W hSw=>by obtain ⟨hs1,hs2,hs3⟩:=hSw;go_simp⟩) hHeld ?_
 try simp only [Act.put,List.setIfInBounds_toArray,List.set_cons_zero,List.set_cons_succ]
 refine wpAnyH_take (i:=9) (v := .pointer (some ⟨B,1,none⟩)) (oi:={ dst:=some 21,op:=Op.fieldAddr 252 (Operand.tmp 2) 1,type:=0,pos := "lens.go:97",after := #[{ on:=4,ground:=Ground.guard }],guard:=some (4,false) }) rfl (by kernel_rfl) (by kernel_rfl) (by kernel_rfl) (fun _ _ _ h=>h) (Or.inl ⟨by rfl,fun W hSw=>by obtain ⟨hs1,hs2,hs3⟩:=hSw;go_simp⟩) hHeld ?_
 try simp only [Act.put,List.setIfInBounds_toArray,List.set_cons_zero,List.set_cons_succ]
 refine wpAnyH_take (i:=10) (v := .int .i64 x) (oi:={ dst:=some 22,op:=Op.load 3 (Operand.tmp 21),type:=3,pos := "lens.go:97",after := #[{ on:=9,ground:=Ground.data },{ on:=4,ground:=Ground.guard }],guard:=some (4,false) }) rfl (by kernel_rfl) (by kernel_rfl) (by kernel_rfl) (fun _ _ _ h=>h) (Or.inl ⟨by rfl,fun W hSw=>by obtain ⟨hs1,hs2,hs3⟩:=hSw;go_simp⟩) hHeld ?_
 try simp only [Act.put,List.setIfInBounds_toArray,List.set_cons_zero,List.set_cons_succ]
 refine wpAnyH_ready (rs:=[8]) (by kernel_rfl) (by simp) ?_
 refine AllReadyH.cons (o:={ dst:=some 20,op:=Op.call { callee:=Callee.value (Operand.func 194),args := #[Operand.const (Value.int IntKind.i64 0),Operand.tmp 19],argTypes := #[3,3] },type:=174,pos := "lens.go:97",after := #[{ on:=7,ground:=Ground.data },{ on:=4,ground:=Ground.chain },{ on:=4,ground:=Ground.guard }],guard:=some (4,false) }) rfl (fun K hK=>?_) AllReadyH.nil
 refine step_call (by rfl) _ _ (run_call2 (.func 194) (.const (.int .i64 0)) (.tmp 19) _ 194 #[] (.int .i64 0) (.int .i64 d) (fun _=>enter21 _ _) rfl rfl rfl rfl) (fun v W=>∃ p q,v=fnOut p q∧Kept W p q 0 d∧Below (B+1) w3 W) ?_ ?_
 ·refine (outside_any 0 d _).mono ?_
  rintro e w2 ⟨p,q,rfl,hk,hb,hp,hq⟩
  exact ⟨_,rfl,p,q,rfl,hk,HB1.out.trans (hb.mono (Nat.le_trans HSZ.out HB1.out.size))⟩
 rintro v2 w2 ⟨p2,q2,rfl,hk,hb⟩
 have HK2:=Lib.hid hk
 have HB2:=Lib.hid hb
 clear hk hb
 refine hK.out _ _ (HC.out _ HB2.out) (fun hHeld=>?_)
 clear hK K
 try simp only [Act.put,List.setIfInBounds_toArray,List.set_cons_zero,List.set_cons_succ]
 refine wpAnyH_ready (rs:=[11]) (by kernel_rfl) (by simp) ?_
 refine AllReadyH.cons (o:={ dst:=some 23,op:=Op.call { callee:=Callee.value (Operand.tmp 20),args := #[Operand.tmp 22],argTypes := #[3] },type:=4,pos := "lens.go:97",after := #[{ on:=8,ground:=Ground.data },{ on:=10,ground:=Ground.data },{ on:=8,ground:=Ground.chain },{ on:=4,ground:=Ground.guard }],guard:=some (4,false) }) rfl (fun K hK=>?_) AllReadyH.nil
 refine step_call (by rfl) _ _ (run_call1 (.tmp 20) (.tmp 22) _ 197 #[.pointer (some ⟨p2,0,none⟩),.pointer (some ⟨q2,0,none⟩)] (.int .i64 x) (fun _=>enter35 _ _) rfl rfl rfl) (fun v W=>v = .bool false∧W=w2) ?_ ?_
 ·refine (bad_no p2 q2 0 d x _ HK2.out H2.out).mono ?_
  rintro e W ⟨rfl,rfl⟩
  exact ⟨_,rfl,rfl,rfl⟩
 rintro v W ⟨rfl,rfl⟩
 refine hK.out _ _ (HC.out _ HB2.out) (fun hHeld=>?_)
 clear hK K
 try simp only [Act.put,List.setIfInBounds_toArray,List.set_cons_zero,List.set_cons_succ]
 refine wpAnyH_take (i:=12) (v := .bool false) (oi:={ dst:=some 24,op:=Op.pick (Operand.tmp 16) (Operand.const (Value.bool true)) (Operand.tmp 23),type:=4,pos := "lens.go:97",after := #[{ on:=4,ground:=Ground.data },{ on:=11,ground:=Ground.data }],guard:=none }) rfl (by kernel_rfl) (by kernel_rfl) (by kernel_rfl) (fun _ _ _ h=>h) (Or.inl ⟨by rfl,fun W hSw=>by obtain ⟨hs1,hs2,hs3⟩:=hSw;go_simp⟩) hHeld ?_
 try simp only [Act.put,List.setIfInBounds_toArray,List.set_cons_zero,List.set_cons_succ]
 refine wpAnyH_take (i:=13) (v := .bool false) (oi:={ dst:=some 25,op:=Op.move (Operand.tmp 24),type:=4,pos := "lens.go:97",after := #[{ on:=12,ground:=Ground.data },{ on:=11,ground:=Ground.chain }],guard:=none }) rfl (by kernel_rfl) (by kernel_rfl) (by kernel_rfl) (fun _ _ _ h=>h) (Or.inl ⟨by rfl,fun W hSw=>by obtain ⟨hs1,hs2,hs3⟩:=hSw;go_simp⟩) hHeld ?_
 try simp only [Act.put,List.setIfInBounds_toArray,List.set_cons_zero,List.set_cons_succ]
 refine wpAnyH_take (i:=14) (v := .pointer (some ⟨B,0,none⟩)) (oi:={ dst:=some 26,op:=Op.fieldAddr 252 (Operand.tmp 2) 0,type:=0,pos := "lens.go:97",after := #[{ on:=13,ground:=Ground.guard }],guard:=some (13,false) }) rfl (by kernel_rfl) (by kernel_rfl) (by kernel_rfl) (fun _ _ _ h=>h) (Or.inl ⟨by rfl,fun W hSw=>by obtain ⟨hs1,hs2,hs3⟩:=hSw;go_simp⟩) hHeld ?_
 try simp only [Act.put,List.setIfInBounds_toArray,List.set_cons_zero,List.set_cons_succ]
 refine wpAnyH_take (i:=15) (v := .int .i64 s) (oi:={ dst:=some 27,op:=Op.load 3 (Operand.tmp 26),type:=3,pos := "lens.go:97",after := #[{ on:=14,ground:=Ground.data },{ on:=13,ground:=Ground.guard }],guard:=some (13,false) }) rfl (by kernel_rfl) (by kernel_rfl) (by kernel_rfl) (fun _ _ _ h=>h) (Or.inl ⟨by rfl,fun W hSw=>by obtain ⟨hs1,hs2,hs3⟩:=hSw;go_simp⟩) hHeld ?_
 try simp only [Act.put,List.setIfInBounds_toArray,List.set_cons_zero,List.set_cons_succ]
 refine wpAnyH_take (i:=16) (v := .bool false) (oi:={ dst:=some 28,op:=Op.binOp BinOp.eql 3 (Operand.tmp 27) (Operand.const (Value.int IntKind.i64 16)) 3,type:=4,pos := "lens.go:97",after := #[{ on:=15,ground:=Ground.data },{ on:=13,ground:=Ground.guard }],guard:=some (13,false) }) rfl (by kernel_rfl) (by kernel_rfl) (by kernel_rfl) (fun _ _ _ h=>h) (Or.inl ⟨by rfl,fun W hSw=>by obtain ⟨hs1,hs2,hs3⟩:=hSw;go_simp⟩) hHeld ?_
 try simp only [Act.put,List.setIfInBounds_toArray,List.set_cons_zero,List.set_cons_succ]
 refine wpAnyH_take (i:=17) (v := .bool false) (oi:={ dst:=some 29,op:=Op.move (Operand.tmp 28),type:=4,pos := "lens.go:97",after := #[{ on:=16,ground:=Ground.data },{ on:=13,ground:=Ground.chain },{ on:=13,ground:=Ground.guard }],guard:=some (13,false) }) rfl (by kernel_rfl) (by kernel_rfl) (by kernel_rfl) (fun _ _ _ h=>h) (Or.inl ⟨by rfl,fun W hSw=>by obtain ⟨hs1,hs2,hs3⟩:=hSw;go_simp⟩) hHeld ?_
 try simp only [Act.put,List.setIfInBounds_toArray,List.set_cons_zero,List.set_cons_succ]
 refine wpAnyH_take (i:=18) (v:=undef) (oi:={ dst:=some 30,op:=Op.load 88 (Operand.tmp 1),type:=88,pos := "lens.go:97",after := #[{ on:=17,ground:=Ground.guard }],guard:=some (17,true) }) rfl (by kernel_rfl) (by kernel_rfl) (by kernel_rfl) (fun _ _ _ h=>h) (Or.inr ⟨by rfl,rfl⟩) hHeld ?_
 try simp only [Act.put,List.setIfInBounds_toArray,List.set_cons_zero,List.set_cons_succ]
 refine wpAnyH_take (i:=19) (v:=undef) (oi:={ dst:=some 31,op:=Op.call { callee:=Callee.builtin Builtin.len,args := #[Operand.tmp 30],argTypes := #[88] },type:=3,pos := "lens.go:97",after := #[{ on:=18,ground:=Ground.data },{ on:=17,ground:=Ground.guard }],guard:=some (17,true) }) rfl (by kernel_rfl) (by kernel_rfl) (by kernel_rfl) (fun _ _ _ h=>h) (Or.inr ⟨by rfl,rfl⟩) hHeld ?_
 try simp only [Act.put,List.setIfInBounds_toArray,List.set_cons_zero,List.set_cons_succ]
 refine wpAnyH_take (i:=20) (v:=undef) (oi:={ dst:=some 32,op:=Op.binOp BinOp.eql 3 (Operand.tmp 31) (Operand.const (Value.int IntKind.i64 0)) 3,type:=4,pos := "lens.go:97",after := #[{ on:=19,ground:=Ground.data },{ on:=17,ground:=Ground.guard }],guard:=some (17,true) }) rfl (by kernel_rfl) (by kernel_rfl) (by kernel_rfl) (fun _ _ _ h=>h) (Or.inr ⟨by rfl,rfl⟩) hHeld ?_
 try simp only [Act.put,List.setIfInBounds_toArray,List.set_cons_zero,List.set_cons_succ]
 refine wpAnyH_take (i:=21) (v := .bool false) (oi:={ dst:=some 33,op:=Op.pick (Operand.tmp 29) (Operand.tmp 32) (Operand.const (Value.bool false)),type:=4,pos := "lens.go:97",after := #[{ on:=17,ground:=Ground.data },{ on:=20,ground:=Ground.data },{ on:=13,ground:=Ground.guard }],guard:=some (13,false) }) rfl (by kernel_rfl) (by kernel_rfl) (by kernel_rfl) (fun _ _ _ h=>h) (Or.inl ⟨by rfl,fun W hSw=>by obtain ⟨hs1,hs2,hs3⟩:=hSw;go_simp⟩) hHeld ?_
 try simp only [Act.put,List.setIfInBounds_toArray,List.set_cons_zero,List.set_cons_succ]
 refine wpAnyH_take (i:=22) (v := .bool false) (oi:={ dst:=some 34,op:=Op.pick (Operand.tmp 25) (Operand.const (Value.bool true)) (Operand.tmp 33),type:=4,pos := "lens.go:97",after := #[{ on:=13,ground:=Ground.data },{ on:=21,ground:=Ground.data }],guard:=none }) rfl (by kernel_rfl) (by kernel_rfl) (by kernel_rfl) (fun _ _ _ h=>h) (Or.inl ⟨by rfl,fun W hSw=>by obtain ⟨hs1,hs2,hs3⟩:=hSw;go_simp⟩) hHeld ?_
 try simp only [Act.put,List.setIfInBounds_toArray,List.set_cons_zero,List.set_cons_succ]
 refine wpAnyH_take (i:=23) (v := .bool false) (oi:={ dst:=some 35,op:=Op.move (Operand.tmp 34),type:=4,pos := "lens.go:97",after := #[{ on:=22,ground:=Ground.data },{ on:=17,ground:=Ground.chain }],guard:=none }) rfl (by kernel_rfl) (by kernel_rfl) (by kernel_rfl) (fun _ _ _ h=>h) (Or.inl ⟨by rfl,fun W hSw=>by obtain ⟨hs1,hs2,hs3⟩:=hSw;go_simp⟩) hHeld ?_
 try simp only [Act.put,List.setIfInBounds_toArray,List.set_cons_zero,List.set_cons_succ]
 refine wpAnyH_take (i:=24) (v := .int .i64 l) (oi:={ dst:=some 36,op:=Op.move (Operand.tmp 4),type:=3,pos := "lens.go:97",after := #[{ on:=23,ground:=Ground.guard }],guard:=some (23,false) }) rfl (by kernel_rfl) (by kernel_rfl) (by kernel_rfl) (fun _ _ _ h=>h) (Or.inl ⟨by rfl,fun W hSw=>by obtain ⟨hs1,hs2,hs3⟩:=hSw;go_simp⟩) hHeld ?_
 try simp only [Act.put,List.setIfInBounds_toArray,List.set_cons_zero,List.set_cons_succ]
 refine wpAnyH_take (i:=25) (v := .pointer (some ⟨B,1,none⟩)) (oi:={ dst:=some 37,op:=Op.fieldAddr 252 (Operand.tmp 2) 1,type:=0,pos := "lens.go:97",after := #[{ on:=23,ground:=Ground.guard }],guard:=some (23,false) }) rfl (by kernel_rfl) (by kernel_rfl) (by kernel_rfl) (fun _ _ _ h=>h) (Or.inl ⟨by rfl,fun W hSw=>by obtain ⟨hs1,hs2,hs3⟩:=hSw;go_simp⟩) hHeld ?_
 try simp only [Act.put,List.setIfInBounds_toArray,List.set_cons_zero,List.set_cons_succ]
 refine wpAnyH_take (i:=26) (v := .int .i64 x) (oi:={ dst:=some 38,op:=Op.load 3 (Operand.tmp 37),type:=3,pos := "lens.go:97",after := #[{ on:=25,ground:=Ground.data },{ on:=23,ground:=Ground.guard }],guard:=some (23,false) }) rfl (by kernel_rfl) (by kernel_rfl) (by kernel_rfl) (fun _ _ _ h=>h) (Or.inl ⟨by rfl,fun W hSw=>by obtain ⟨hs1,hs2,hs3⟩:=hSw;go_simp⟩) hHeld ?_
 try simp only [Act.put,List.setIfInBounds_toArray,List.set_cons_zero,List.set_cons_succ]
 refine wpAnyH_take (i:=27) (v := .int .i64 u) (oi:={ dst:=some 39,op:=Op.binOp BinOp.add 3 (Operand.tmp 36) (Operand.tmp 38) 3,type:=3,pos := "lens.go:97",after := #[{ on:=24,ground:=Ground.data },{ on:=26,ground:=Ground.data },{ on:=23,ground:=Ground.guard }],guard:=some (23,false) }) rfl (by kernel_rfl) (by kernel_rfl) (by kernel_rfl) (fun _ _ _ h=>h) (Or.inl ⟨by rfl,fun W hSw=>by obtain ⟨hs1,hs2,hs3⟩:=hSw;go_simp⟩) hHeld ?_
 try simp only [Act.put,List.setIfInBounds_toArray,List.set_cons_zero,List.set_cons_succ]
 refine wpAnyH_take (i:=28) (v := .slice ao n c) (oi:={ dst:=some 40,op:=Op.load 88 (Operand.tmp 1),type:=88,pos := "lens.go:97",after := #[{ on:=23,ground:=Ground.guard }],guard:=some (23,false) }) rfl (by kernel_rfl) (by kernel_rfl) (by kernel_rfl) (fun _ _ _ h=>h) (Or.inl ⟨by rfl,fun W hSw=>by obtain ⟨hs1,hs2,hs3⟩:=hSw;go_simp⟩) hHeld ?_
 try simp only [Act.put,List.setIfInBounds_toArray,List.set_cons_zero,List.set_cons_succ]
 refine wpAnyH_take (i:=29) (v := .int .i64 n) (oi:={ dst:=some 41,op:=Op.call { callee:=Callee.builtin Builtin.len,args := #[Operand.tmp 40],argTypes := #[88] },type:=3,pos := "lens.go:97",after := #[{ on:=28,ground:=Ground.data },{ on:=23,ground:=Ground.guard }],guard:=some (23,false) }) rfl (by kernel_rfl) (by kernel_rfl) (by kernel_rfl) (fun _ _ _ h=>h) (Or.inl ⟨by rfl,fun W hSw=>by obtain ⟨hs1,hs2,hs3⟩:=hSw;go_simp⟩) hHeld ?_
 try simp only [Act.put,List.setIfInBounds_toArray,List.set_cons_zero,List.set_cons_succ]
 refine wpAnyH_take (i:=30) (v := .int .i64 y) (oi:={ dst:=some 42,op:=Op.binOp BinOp.sub 3 (Operand.const (Value.int IntKind.i64 320)) (Operand.tmp 41) 3,type:=3,pos := "lens.go:97",after := #[{ on:=29,ground:=Ground.data },{ on:=23,ground:=Ground.guard }],guard:=some (23,false) }) rfl (by kernel_rfl) (by kernel_rfl) (by kernel_rfl) (fun _ _ _ h=>h) (Or.inl ⟨by rfl,fun W hSw=>by obtain ⟨hs1,hs2,hs3⟩:=hSw;go_simp⟩) hHeld ?_
 try simp only [Act.put,List.setIfInBounds_toArray,List.set_cons_zero,List.set_cons_succ]
 refine wpAnyH_take (i:=31) (v := .bool false) (oi:={ dst:=some 43,op:=Op.binOp BinOp.gtr 3 (Operand.tmp 39) (Operand.tmp 42) 3,type:=4,pos := "lens.go:97",after := #[{ on:=27,ground:=Ground.data },{ on:=30,ground:=Ground.data },{ on:=23,ground:=Ground.guard }],guard:=some (23,false) }) rfl (by kernel_rfl) (by kernel_rfl) (by kernel_rfl) (fun _ _ _ h=>h) (Or.inl ⟨by rfl,fun W hSw=>by obtain ⟨hs1,hs2,hs3⟩:=hSw;go_simp⟩) hHeld ?_
 try simp only [Act.put,List.setIfInBounds_toArray,List.set_cons_zero,List.set_cons_succ]
 refine wpAnyH_take (i:=32) (v := .bool false) (oi:={ dst:=some 44,op:=Op.pick (Operand.tmp 35) (Operand.const (Value.bool true)) (Operand.tmp 43),type:=4,pos := "lens.go:97",after := #[{ on:=23,ground:=Ground.data },{ on:=31,ground:=Ground.data }],guard:=none }) rfl (by kernel_rfl) (by kernel_rfl) (by kernel_rfl) (fun _ _ _ h=>h) (Or.inl ⟨by rfl,fun W hSw=>by obtain ⟨hs1,hs2,hs3⟩:=hSw;go_simp⟩) hHeld ?_
 try simp only [Act.put,List.setIfInBounds_toArray,List.set_cons_zero,List.set_cons_succ]
 refine wpAnyH_take (i:=33) (v := .bool false) (oi:={ dst:=some 3,op:=Op.assign (Operand.tmp 44),type:=4,pos := "lens.go:97",after := #[{ on:=32,ground:=Ground.data },{ on:=23,ground:=Ground.chain },{ on:=0,ground:=Ground.phase },{ on:=1,ground:=Ground.phase },{ on:=2,ground:=Ground.phase },{ on:=3,ground:=Ground.phase },{ on:=4,ground:=Ground.phase },{ on:=5,ground:=Ground.phase },{ on:=6,ground:=Ground.phase },{ on:=7,ground:=Ground.phase },{ on:=8,ground:=Ground.phase },{ on:=9,ground:=Ground.phase },{ on:=10,ground:=Ground.phase },{ on:=11,ground:=Ground.phase },{ on:=12,ground:=Ground.phase },{ on:=13,ground:=Ground.phase },{ on:=14,ground:=Ground.phase },{ on:=15,ground:=Ground.phase },{ on:=16,ground:=Ground.phase },{ on:=17,ground:=Ground.phase },{ on:=18,ground:=Ground.phase },{ on:=19,ground:=Ground.phase },{ on:=20,ground:=Ground.phase },{ on:=21,ground:=Ground.phase },{ on:=22,ground:=Ground.phase },{ on:=23,ground:=Ground.phase },{ on:=24,ground:=Ground.phase },{ on:=25,ground:=Ground.phase },{ on:=26,ground:=Ground.phase },{ on:=27,ground:=Ground.phase },{ on:=28,ground:=Ground.phase },{ on:=29,ground:=Ground.phase },{ on:=30,ground:=Ground.phase },{ on:=31,ground:=Ground.phase },{ on:=32,ground:=Ground.phase }],guard:=none }) rfl (by kernel_rfl) (by kernel_rfl) (by kernel_rfl) (fun _ _ _ h=>h) (Or.inl ⟨by rfl,fun W hSw=>by obtain ⟨hs1,hs2,hs3⟩:=hSw;go_simp⟩) hHeld ?_
 try simp only [Act.put,List.setIfInBounds_toArray,List.set_cons_zero,List.set_cons_succ]
 refine wpAnyH_done (by kernel_rfl) ?_ _
 clear hHeld
 go_wp2
 go_ret
 exact ⟨rfl,HF.out _ HB2.out⟩
end
end Go.Proofs.YthbbpooobaahiaaGreatDoor.Z
