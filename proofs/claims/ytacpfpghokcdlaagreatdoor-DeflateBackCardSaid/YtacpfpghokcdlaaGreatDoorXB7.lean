/- Part 7. -/
import Derived.Test.YtacpfpghokcdlaaGreatDoorXB6
open Go.Proofs.Tryz
namespace Go.Proofs.YtacpfpghokcdlaaGreatDoor.Z
set_option maxRecDepth 100000
section
open Go.Lib renaming hid → J
open Go.RowKit
abbrev q1:Oper:={ dst:=some 12,op:=Op.call { callee:=Callee.value (Operand.func 174),args := #[Operand.const (Value.int IntKind.i64 0),Operand.const (Value.int IntKind.i64 18)],argTypes := #[3,3] },type:=52,pos := "lens.go:97",after := #[],guard:=none }
abbrev q2:Oper:={ dst:=some 15,op:=Op.call { callee:=Callee.value (Operand.tmp 12),args := #[Operand.tmp 14],argTypes := #[3] },type:=4,pos := "lens.go:97",after := #[{ on:=0,ground:=Ground.data },{ on:=2,ground:=Ground.data },{ on:=0,ground:=Ground.chain }],guard:=none }
abbrev q3:Oper:={ dst:=some 20,op:=Op.call { callee:=Callee.value (Operand.func 174),args := #[Operand.const (Value.int IntKind.i64 0),Operand.tmp 19],argTypes := #[3,3] },type:=52,pos := "lens.go:97",after := #[{ on:=7,ground:=Ground.data },{ on:=4,ground:=Ground.chain },{ on:=4,ground:=Ground.guard }],guard:=some (4,false) }
abbrev q4:Oper:={ dst:=some 23,op:=Op.call { callee:=Callee.value (Operand.tmp 20),args := #[Operand.tmp 22],argTypes := #[3] },type:=4,pos := "lens.go:97",after := #[{ on:=8,ground:=Ground.data },{ on:=10,ground:=Ground.data },{ on:=8,ground:=Ground.chain },{ on:=4,ground:=Ground.guard }],guard:=some (4,false) }
def Wrote (w:World) (b:Bool) (e:Ending) (w':World):Prop:=e=.returned (.bool b)∧Below w.heap.size w w'
set_option maxHeartbeats 4000000 in
set_option maxRecDepth 100000 in
theorem zmI (g n c l m d:Nat) (ao:Option Addr) (s x u y:Int) (w:World) (hg:w.cell? ⟨g,0,none⟩=some (.slice ao n c)) (hl:spl s=l) (hm:spm s=m) (_e1:IntKind.i64.wrap ((m:Int)-l)=d)
  (_e2:IntKind.i64.wrap ((l:Int)+x)=u) (_e3:IntKind.i64.wrap ((320:Int)-n)=y) (h1:Bad 0 18 s) :
  Calls prog 183 #[.agg #[.int .i64 s,.int .i64 x],.pointer (some ⟨g,0,none⟩)] w (Wrote w true):=by
 have HGL:=J (World.block_lt_of_cell? w _ hg);have HG:=J hg;have HSP:=J (And.intro hl hm);have H1:=J h1;clear h1;clear hl hm hg;obtain ⟨B,hB⟩:=exq (w.heap.size);have HC:Hid (∀ W,Below (B+1) (w.alloc (.cells #[.int .i64 s,.int .i64 x] 187)) W→W.cell? ⟨B,0,none⟩=some (.int .i64 s)∧W.cell? ⟨B,1,none⟩=some (.int .i64 x)∧W.cell? ⟨g,0,none⟩=some (.slice ao n c)):=J fun W hb=>by
  subst hB;refine ⟨(hb.cell (p:=⟨_,0,none⟩) (Nat.lt_succ_self _)).trans ?_,(hb.cell (p:=⟨_,1,none⟩) (Nat.lt_succ_self _)).trans ?_,(hb.cell (p:=⟨g,0,none⟩) (Nat.lt_succ_of_lt HGL.out)).trans ?_⟩
  ·simp
  ·simp
  ·have h1:g≠w.heap.size:=Nat.ne_of_lt HGL.out
   have h2:=HG.out;simp [World.cell?_alloc_old,h1,h2]
 have HB0:Hid (Below (B+1) (w.alloc (.cells #[.int .i64 s,.int .i64 x] 187)) (w.alloc (.cells #[.int .i64 s,.int .i64 x] 187)).drew):=J (by
  subst hB;have h:=(Below.refl (w.alloc (.cells #[.int .i64 s,.int .i64 x] 187)).heap.size (w.alloc (.cells #[.int .i64 s,.int .i64 x] 187))).drew;simpa using h)
 have HF:Hid (∀ W,Below (B+1) (w.alloc (.cells #[.int .i64 s,.int .i64 x] 187)) W→Below w.heap.size w W):=J fun W hb=>by
  subst hB;exact ((Below.refl _ w).alloc (Nat.le_refl _) _).trans (hb.mono (Nat.le_succ _))
 have HSZ:Hid (B+1≤(w.alloc (.cells #[.int .i64 s,.int .i64 x] 187)).heap.size):=J (by subst hB;simp);go_enter func183,ntmps183;go_upto_region 2 with (go_at_call 181;refine (zu _ _).mono ?_;rintro e w5 ⟨rfl,rfl⟩;rw [HSP.out.1,HSP.out.2])
 rw [←hB];clear hB;generalize (w.alloc (.cells #[.int .i64 s,.int .i64 x] 187))=w3 at *;refine wp_region_held_drew (S:=fun W=>W.cell? ⟨B,0,none⟩=some (.int .i64 s)∧W.cell? ⟨B,1,none⟩=some (.int .i64 x)∧W.cell? ⟨g,0,none⟩=some (.slice ao n c)) (by kernel_rfl) (HC.out _ HB0.out) (fun hHeld=>?_)
 refine tA 1 (.pointer (some ⟨B,0,none⟩)) hHeld ?_;dsimp only [List.set];refine tA 2 (.int .i64 s) hHeld ?_;dsimp only [List.set];refine wpAnyH_ready (rs:=[0]) (by kernel_rfl) (by simp) ?_;refine AllReadyH.cons (o:=q1) rfl (fun K hK=>?_) AllReadyH.nil;refine zk (by rfl) _ _ (zB (.func 174) (.const (.int .i64 0)) (.const (.int .i64 18)) _ 174 #[] (.int .i64 0) (.int .i64 18) (fun _=>qh _ _) rfl rfl rfl rfl) (fun v W=>∃ p q,v=zW p q∧Kept W p q 0 18∧Below (B+1) w3 W) ?_ ?_
 ·refine (zm 0 18 _).mono ?_
  rintro e w1 ⟨p,q,rfl,hk,hb,hp,hq⟩;exact ⟨_,rfl,p,q,rfl,hk,HB0.out.trans (hb.mono (Nat.le_trans HSZ.out HB0.out.size))⟩
 rintro v1 w1 ⟨p1,q1,rfl,hk,hb⟩;have HK1:=J hk;have HB1:=J hb;clear hk hb;refine hK.out _ _ (HC.out _ HB1.out) (fun hHeld=>?_);clear hK K;try simp only [Act.put,List.setIfInBounds_toArray,List.set_cons_zero,List.set_cons_succ]
 refine wpAnyH_ready (rs:=[3]) (by kernel_rfl) (by simp) ?_;refine AllReadyH.cons (o:=q2) rfl (fun K hK=>?_) AllReadyH.nil;refine zk (by rfl) _ _ (zN (.tmp 12) (.tmp 14) _ 185 #[.pointer (some ⟨p1,0,none⟩),.pointer (some ⟨q1,0,none⟩)] (.int .i64 s) (fun _=>qu _ _) rfl rfl rfl) (fun v W=>v=.bool true∧W=w1) ?_ ?_
 ·refine (y5 p1 q1 0 18 s _ HK1.out H1.out).mono ?_
  rintro e W ⟨rfl,rfl⟩;exact ⟨_,rfl,rfl,rfl⟩
 rintro v W ⟨rfl,rfl⟩;refine hK.out _ _ (HC.out _ HB1.out) (fun hHeld=>?_);clear hK K;try simp only [Act.put,List.setIfInBounds_toArray,List.set_cons_zero,List.set_cons_succ]
 refine tA 4 (.bool true) hHeld ?_;dsimp only [List.set];refine tB 5 hHeld ?_;refine tB 6 hHeld ?_;refine tB 7 hHeld ?_;refine tB 8 hHeld ?_;refine tB 9 hHeld ?_;refine tB 10 hHeld ?_;refine tB 11 hHeld ?_;refine tA 12 (.bool true) hHeld ?_;dsimp only [List.set];refine tA 13 (.bool true) hHeld ?_;dsimp only [List.set];refine tB 14 hHeld ?_;refine tB 15 hHeld ?_;refine tB 16 hHeld ?_;refine tB 17 hHeld ?_;refine tB 18 hHeld ?_;refine tB 19 hHeld ?_;refine tB 20 hHeld ?_;refine tB 21 hHeld ?_;refine tA 22 (.bool true) hHeld ?_;dsimp only [List.set];refine tA 23 (.bool true) hHeld ?_;dsimp only [List.set];refine tB 24 hHeld ?_;refine tB 25 hHeld ?_;refine tB 26 hHeld ?_;refine tB 27 hHeld ?_;refine tB 28 hHeld ?_;refine tB 29 hHeld ?_;refine tB 30 hHeld ?_;refine tB 31 hHeld ?_;refine tA 32 (.bool true) hHeld ?_;dsimp only [List.set];refine tA 33 (.bool true) hHeld ?_;dsimp only [List.set];refine wpAnyH_done (by kernel_rfl) ?_ _;clear hHeld;go_wp2;go_ret;exact ⟨rfl,HF.out _ HB1.out⟩
set_option maxHeartbeats 4000000 in
set_option maxRecDepth 100000 in
theorem zmu (g n c l m d:Nat) (ao:Option Addr) (s x u y:Int) (w:World) (hg:w.cell? ⟨g,0,none⟩=some (.slice ao n c)) (hl:spl s=l) (hm:spm s=m) (_e1:IntKind.i64.wrap ((m:Int)-l)=d)
  (_e2:IntKind.i64.wrap ((l:Int)+x)=u) (_e3:IntKind.i64.wrap ((320:Int)-n)=y) (h1:¬Bad 0 18 s) (h2:Bad 0 d x) :
  Calls prog 183 #[.agg #[.int .i64 s,.int .i64 x],.pointer (some ⟨g,0,none⟩)] w (Wrote w true):=by
 have HGL:=J (World.block_lt_of_cell? w _ hg);have HG:=J hg;have HSP:=J (And.intro hl hm);have H1:=J h1;have H2:=J h2;clear h1 h2;clear hl hm hg;obtain ⟨B,hB⟩:=exq (w.heap.size);have HC:Hid (∀ W,Below (B+1) (w.alloc (.cells #[.int .i64 s,.int .i64 x] 187)) W→W.cell? ⟨B,0,none⟩=some (.int .i64 s)∧W.cell? ⟨B,1,none⟩=some (.int .i64 x)∧W.cell? ⟨g,0,none⟩=some (.slice ao n c)):=J fun W hb=>by
  subst hB;refine ⟨(hb.cell (p:=⟨_,0,none⟩) (Nat.lt_succ_self _)).trans ?_,(hb.cell (p:=⟨_,1,none⟩) (Nat.lt_succ_self _)).trans ?_,(hb.cell (p:=⟨g,0,none⟩) (Nat.lt_succ_of_lt HGL.out)).trans ?_⟩
  ·simp
  ·simp
  ·have h1:g≠w.heap.size:=Nat.ne_of_lt HGL.out
   have h2:=HG.out;simp [World.cell?_alloc_old,h1,h2]
 have HB0:Hid (Below (B+1) (w.alloc (.cells #[.int .i64 s,.int .i64 x] 187)) (w.alloc (.cells #[.int .i64 s,.int .i64 x] 187)).drew):=J (by
  subst hB;have h:=(Below.refl (w.alloc (.cells #[.int .i64 s,.int .i64 x] 187)).heap.size (w.alloc (.cells #[.int .i64 s,.int .i64 x] 187))).drew;simpa using h)
 have HF:Hid (∀ W,Below (B+1) (w.alloc (.cells #[.int .i64 s,.int .i64 x] 187)) W→Below w.heap.size w W):=J fun W hb=>by
  subst hB;exact ((Below.refl _ w).alloc (Nat.le_refl _) _).trans (hb.mono (Nat.le_succ _))
 have HSZ:Hid (B+1≤(w.alloc (.cells #[.int .i64 s,.int .i64 x] 187)).heap.size):=J (by subst hB;simp);go_enter func183,ntmps183;go_upto_region 2 with (go_at_call 181;refine (zu _ _).mono ?_;rintro e w5 ⟨rfl,rfl⟩;rw [HSP.out.1,HSP.out.2])
 rw [←hB];clear hB;generalize (w.alloc (.cells #[.int .i64 s,.int .i64 x] 187))=w3 at *;refine wp_region_held_drew (S:=fun W=>W.cell? ⟨B,0,none⟩=some (.int .i64 s)∧W.cell? ⟨B,1,none⟩=some (.int .i64 x)∧W.cell? ⟨g,0,none⟩=some (.slice ao n c)) (by kernel_rfl) (HC.out _ HB0.out) (fun hHeld=>?_)
 refine tA 1 (.pointer (some ⟨B,0,none⟩)) hHeld ?_;dsimp only [List.set];refine tA 2 (.int .i64 s) hHeld ?_;dsimp only [List.set];refine wpAnyH_ready (rs:=[0]) (by kernel_rfl) (by simp) ?_;refine AllReadyH.cons (o:=q1) rfl (fun K hK=>?_) AllReadyH.nil;refine zk (by rfl) _ _ (zB (.func 174) (.const (.int .i64 0)) (.const (.int .i64 18)) _ 174 #[] (.int .i64 0) (.int .i64 18) (fun _=>qh _ _) rfl rfl rfl rfl) (fun v W=>∃ p q,v=zW p q∧Kept W p q 0 18∧Below (B+1) w3 W) ?_ ?_
 ·refine (zm 0 18 _).mono ?_
  rintro e w1 ⟨p,q,rfl,hk,hb,hp,hq⟩;exact ⟨_,rfl,p,q,rfl,hk,HB0.out.trans (hb.mono (Nat.le_trans HSZ.out HB0.out.size))⟩
 rintro v1 w1 ⟨p1,q1,rfl,hk,hb⟩;have HK1:=J hk;have HB1:=J hb;clear hk hb;refine hK.out _ _ (HC.out _ HB1.out) (fun hHeld=>?_);clear hK K;try simp only [Act.put,List.setIfInBounds_toArray,List.set_cons_zero,List.set_cons_succ]
 refine wpAnyH_ready (rs:=[3]) (by kernel_rfl) (by simp) ?_;refine AllReadyH.cons (o:=q2) rfl (fun K hK=>?_) AllReadyH.nil;refine zk (by rfl) _ _ (zN (.tmp 12) (.tmp 14) _ 185 #[.pointer (some ⟨p1,0,none⟩),.pointer (some ⟨q1,0,none⟩)] (.int .i64 s) (fun _=>qu _ _) rfl rfl rfl) (fun v W=>v=.bool false∧W=w1) ?_ ?_
 ·refine (qM p1 q1 0 18 s _ HK1.out H1.out).mono ?_
  rintro e W ⟨rfl,rfl⟩;exact ⟨_,rfl,rfl,rfl⟩
 rintro v W ⟨rfl,rfl⟩;refine hK.out _ _ (HC.out _ HB1.out) (fun hHeld=>?_);clear hK K;try simp only [Act.put,List.setIfInBounds_toArray,List.set_cons_zero,List.set_cons_succ]
 refine tA 4 (.bool false) hHeld ?_;dsimp only [List.set];refine tA 5 (.int .i64 m) hHeld ?_;dsimp only [List.set];refine tA 6 (.int .i64 l) hHeld ?_;dsimp only [List.set];refine tA 7 (.int .i64 d) hHeld ?_;dsimp only [List.set];refine tA 9 (.pointer (some ⟨B,1,none⟩)) hHeld ?_;dsimp only [List.set];refine tA 10 (.int .i64 x) hHeld ?_;dsimp only [List.set];refine wpAnyH_ready (rs:=[8]) (by kernel_rfl) (by simp) ?_;refine AllReadyH.cons (o:=q3) rfl (fun K hK=>?_) AllReadyH.nil;refine zk (by rfl) _ _ (zB (.func 174) (.const (.int .i64 0)) (.tmp 19) _ 174 #[] (.int .i64 0) (.int .i64 d) (fun _=>qh _ _) rfl rfl rfl rfl) (fun v W=>∃ p q,v=zW p q∧Kept W p q 0 d∧Below (B+1) w3 W) ?_ ?_
 ·refine (zm 0 d _).mono ?_
  rintro e w2 ⟨p,q,rfl,hk,hb,hp,hq⟩;exact ⟨_,rfl,p,q,rfl,hk,HB1.out.trans (hb.mono (Nat.le_trans HSZ.out HB1.out.size))⟩
 rintro v2 w2 ⟨p2,q2,rfl,hk,hb⟩;have HK2:=J hk;have HB2:=J hb;clear hk hb;refine hK.out _ _ (HC.out _ HB2.out) (fun hHeld=>?_);clear hK K;try simp only [Act.put,List.setIfInBounds_toArray,List.set_cons_zero,List.set_cons_succ]
 refine wpAnyH_ready (rs:=[11]) (by kernel_rfl) (by simp) ?_;refine AllReadyH.cons (o:=q4) rfl (fun K hK=>?_) AllReadyH.nil;refine zk (by rfl) _ _ (zN (.tmp 20) (.tmp 22) _ 185 #[.pointer (some ⟨p2,0,none⟩),.pointer (some ⟨q2,0,none⟩)] (.int .i64 x) (fun _=>qu _ _) rfl rfl rfl) (fun v W=>v=.bool true∧W=w2) ?_ ?_
 ·refine (y5 p2 q2 0 d x _ HK2.out H2.out).mono ?_
  rintro e W ⟨rfl,rfl⟩;exact ⟨_,rfl,rfl,rfl⟩
 rintro v W ⟨rfl,rfl⟩;refine hK.out _ _ (HC.out _ HB2.out) (fun hHeld=>?_);clear hK K;try simp only [Act.put,List.setIfInBounds_toArray,List.set_cons_zero,List.set_cons_succ]
 refine tA 12 (.bool true) hHeld ?_;dsimp only [List.set];refine tA 13 (.bool true) hHeld ?_;dsimp only [List.set];refine tB 14 hHeld ?_;refine tB 15 hHeld ?_;refine tB 16 hHeld ?_;refine tB 17 hHeld ?_;refine tB 18 hHeld ?_;refine tB 19 hHeld ?_;refine tB 20 hHeld ?_;refine tB 21 hHeld ?_;refine tA 22 (.bool true) hHeld ?_;dsimp only [List.set];refine tA 23 (.bool true) hHeld ?_;dsimp only [List.set];refine tB 24 hHeld ?_;refine tB 25 hHeld ?_;refine tB 26 hHeld ?_;refine tB 27 hHeld ?_;refine tB 28 hHeld ?_;refine tB 29 hHeld ?_;refine tB 30 hHeld ?_;refine tB 31 hHeld ?_;refine tA 32 (.bool true) hHeld ?_;dsimp only [List.set];refine tA 33 (.bool true) hHeld ?_;dsimp only [List.set];refine wpAnyH_done (by kernel_rfl) ?_ _;clear hHeld;go_wp2;go_ret;exact ⟨rfl,HF.out _ HB2.out⟩
set_option maxHeartbeats 4000000 in
set_option maxRecDepth 100000 in
theorem zmA (g n c l m d:Nat) (ao:Option Addr) (s x u y:Int) (w:World) (hg:w.cell? ⟨g,0,none⟩=some (.slice ao n c)) (hl:spl s=l) (hm:spm s=m) (_e1:IntKind.i64.wrap ((m:Int)-l)=d)
  (_e2:IntKind.i64.wrap ((l:Int)+x)=u) (_e3:IntKind.i64.wrap ((320:Int)-n)=y) (h1:¬Bad 0 18 s) (h2:¬Bad 0 d x) (h3:(s == 16)=true) (h4:((n:Int) == 0)=true) :
  Calls prog 183 #[.agg #[.int .i64 s,.int .i64 x],.pointer (some ⟨g,0,none⟩)] w (Wrote w true):=by
 have HGL:=J (World.block_lt_of_cell? w _ hg);have HG:=J hg;have HSP:=J (And.intro hl hm);have H1:=J h1;have H2:=J h2;clear h1 h2;clear hl hm hg;obtain ⟨B,hB⟩:=exq (w.heap.size);have HC:Hid (∀ W,Below (B+1) (w.alloc (.cells #[.int .i64 s,.int .i64 x] 187)) W→W.cell? ⟨B,0,none⟩=some (.int .i64 s)∧W.cell? ⟨B,1,none⟩=some (.int .i64 x)∧W.cell? ⟨g,0,none⟩=some (.slice ao n c)):=J fun W hb=>by
  subst hB;refine ⟨(hb.cell (p:=⟨_,0,none⟩) (Nat.lt_succ_self _)).trans ?_,(hb.cell (p:=⟨_,1,none⟩) (Nat.lt_succ_self _)).trans ?_,(hb.cell (p:=⟨g,0,none⟩) (Nat.lt_succ_of_lt HGL.out)).trans ?_⟩
  ·simp
  ·simp
  ·have h1:g≠w.heap.size:=Nat.ne_of_lt HGL.out
   have h2:=HG.out;simp [World.cell?_alloc_old,h1,h2]
 have HB0:Hid (Below (B+1) (w.alloc (.cells #[.int .i64 s,.int .i64 x] 187)) (w.alloc (.cells #[.int .i64 s,.int .i64 x] 187)).drew):=J (by
  subst hB;have h:=(Below.refl (w.alloc (.cells #[.int .i64 s,.int .i64 x] 187)).heap.size (w.alloc (.cells #[.int .i64 s,.int .i64 x] 187))).drew;simpa using h)
 have HF:Hid (∀ W,Below (B+1) (w.alloc (.cells #[.int .i64 s,.int .i64 x] 187)) W→Below w.heap.size w W):=J fun W hb=>by
  subst hB;exact ((Below.refl _ w).alloc (Nat.le_refl _) _).trans (hb.mono (Nat.le_succ _))
 have HSZ:Hid (B+1≤(w.alloc (.cells #[.int .i64 s,.int .i64 x] 187)).heap.size):=J (by subst hB;simp);go_enter func183,ntmps183;go_upto_region 2 with (go_at_call 181;refine (zu _ _).mono ?_;rintro e w5 ⟨rfl,rfl⟩;rw [HSP.out.1,HSP.out.2])
 rw [←hB];clear hB;generalize (w.alloc (.cells #[.int .i64 s,.int .i64 x] 187))=w3 at *;refine wp_region_held_drew (S:=fun W=>W.cell? ⟨B,0,none⟩=some (.int .i64 s)∧W.cell? ⟨B,1,none⟩=some (.int .i64 x)∧W.cell? ⟨g,0,none⟩=some (.slice ao n c)) (by kernel_rfl) (HC.out _ HB0.out) (fun hHeld=>?_)
 refine tA 1 (.pointer (some ⟨B,0,none⟩)) hHeld ?_;dsimp only [List.set];refine tA 2 (.int .i64 s) hHeld ?_;dsimp only [List.set];refine wpAnyH_ready (rs:=[0]) (by kernel_rfl) (by simp) ?_;refine AllReadyH.cons (o:=q1) rfl (fun K hK=>?_) AllReadyH.nil;refine zk (by rfl) _ _ (zB (.func 174) (.const (.int .i64 0)) (.const (.int .i64 18)) _ 174 #[] (.int .i64 0) (.int .i64 18) (fun _=>qh _ _) rfl rfl rfl rfl) (fun v W=>∃ p q,v=zW p q∧Kept W p q 0 18∧Below (B+1) w3 W) ?_ ?_
 ·refine (zm 0 18 _).mono ?_
  rintro e w1 ⟨p,q,rfl,hk,hb,hp,hq⟩;exact ⟨_,rfl,p,q,rfl,hk,HB0.out.trans (hb.mono (Nat.le_trans HSZ.out HB0.out.size))⟩
 rintro v1 w1 ⟨p1,q1,rfl,hk,hb⟩;have HK1:=J hk;have HB1:=J hb;clear hk hb;refine hK.out _ _ (HC.out _ HB1.out) (fun hHeld=>?_);clear hK K;try simp only [Act.put,List.setIfInBounds_toArray,List.set_cons_zero,List.set_cons_succ]
 refine wpAnyH_ready (rs:=[3]) (by kernel_rfl) (by simp) ?_;refine AllReadyH.cons (o:=q2) rfl (fun K hK=>?_) AllReadyH.nil;refine zk (by rfl) _ _ (zN (.tmp 12) (.tmp 14) _ 185 #[.pointer (some ⟨p1,0,none⟩),.pointer (some ⟨q1,0,none⟩)] (.int .i64 s) (fun _=>qu _ _) rfl rfl rfl) (fun v W=>v=.bool false∧W=w1) ?_ ?_
 ·refine (qM p1 q1 0 18 s _ HK1.out H1.out).mono ?_
  rintro e W ⟨rfl,rfl⟩;exact ⟨_,rfl,rfl,rfl⟩
 rintro v W ⟨rfl,rfl⟩;refine hK.out _ _ (HC.out _ HB1.out) (fun hHeld=>?_);clear hK K;try simp only [Act.put,List.setIfInBounds_toArray,List.set_cons_zero,List.set_cons_succ]
 refine tA 4 (.bool false) hHeld ?_;dsimp only [List.set];refine tA 5 (.int .i64 m) hHeld ?_;dsimp only [List.set];refine tA 6 (.int .i64 l) hHeld ?_;dsimp only [List.set];refine tA 7 (.int .i64 d) hHeld ?_;dsimp only [List.set];refine tA 9 (.pointer (some ⟨B,1,none⟩)) hHeld ?_;dsimp only [List.set];refine tA 10 (.int .i64 x) hHeld ?_;dsimp only [List.set];refine wpAnyH_ready (rs:=[8]) (by kernel_rfl) (by simp) ?_;refine AllReadyH.cons (o:=q3) rfl (fun K hK=>?_) AllReadyH.nil;refine zk (by rfl) _ _ (zB (.func 174) (.const (.int .i64 0)) (.tmp 19) _ 174 #[] (.int .i64 0) (.int .i64 d) (fun _=>qh _ _) rfl rfl rfl rfl) (fun v W=>∃ p q,v=zW p q∧Kept W p q 0 d∧Below (B+1) w3 W) ?_ ?_
 ·refine (zm 0 d _).mono ?_
  rintro e w2 ⟨p,q,rfl,hk,hb,hp,hq⟩;exact ⟨_,rfl,p,q,rfl,hk,HB1.out.trans (hb.mono (Nat.le_trans HSZ.out HB1.out.size))⟩
 rintro v2 w2 ⟨p2,q2,rfl,hk,hb⟩;have HK2:=J hk;have HB2:=J hb;clear hk hb;refine hK.out _ _ (HC.out _ HB2.out) (fun hHeld=>?_);clear hK K;try simp only [Act.put,List.setIfInBounds_toArray,List.set_cons_zero,List.set_cons_succ]
 refine wpAnyH_ready (rs:=[11]) (by kernel_rfl) (by simp) ?_;refine AllReadyH.cons (o:=q4) rfl (fun K hK=>?_) AllReadyH.nil;refine zk (by rfl) _ _ (zN (.tmp 20) (.tmp 22) _ 185 #[.pointer (some ⟨p2,0,none⟩),.pointer (some ⟨q2,0,none⟩)] (.int .i64 x) (fun _=>qu _ _) rfl rfl rfl) (fun v W=>v=.bool false∧W=w2) ?_ ?_
 ·refine (qM p2 q2 0 d x _ HK2.out H2.out).mono ?_
  rintro e W ⟨rfl,rfl⟩;exact ⟨_,rfl,rfl,rfl⟩
 rintro v W ⟨rfl,rfl⟩;refine hK.out _ _ (HC.out _ HB2.out) (fun hHeld=>?_);clear hK K;try simp only [Act.put,List.setIfInBounds_toArray,List.set_cons_zero,List.set_cons_succ]
 refine tA 12 (.bool false) hHeld ?_;dsimp only [List.set];refine tA 13 (.bool false) hHeld ?_;dsimp only [List.set];refine tA 14 (.pointer (some ⟨B,0,none⟩)) hHeld ?_;dsimp only [List.set];refine tA 15 (.int .i64 s) hHeld ?_;dsimp only [List.set];refine tA 16 (.bool true) hHeld ?_;dsimp only [List.set];refine tA 17 (.bool true) hHeld ?_;dsimp only [List.set];refine tA 18 (.slice ao n c) hHeld ?_;dsimp only [List.set];refine tA 19 (.int .i64 n) hHeld ?_;dsimp only [List.set];refine tA 20 (.bool true) hHeld ?_;dsimp only [List.set];refine tA 21 (.bool true) hHeld ?_;dsimp only [List.set];refine tA 22 (.bool true) hHeld ?_;dsimp only [List.set];refine tA 23 (.bool true) hHeld ?_;dsimp only [List.set];refine tB 24 hHeld ?_;refine tB 25 hHeld ?_;refine tB 26 hHeld ?_;refine tB 27 hHeld ?_;refine tB 28 hHeld ?_;refine tB 29 hHeld ?_;refine tB 30 hHeld ?_;refine tB 31 hHeld ?_;refine tA 32 (.bool true) hHeld ?_;dsimp only [List.set];refine tA 33 (.bool true) hHeld ?_;dsimp only [List.set];refine wpAnyH_done (by kernel_rfl) ?_ _;clear hHeld;go_wp2;go_ret;exact ⟨rfl,HF.out _ HB2.out⟩
set_option maxHeartbeats 4000000 in
set_option maxRecDepth 100000 in
theorem zmz (g n c l m d:Nat) (ao:Option Addr) (s x u y:Int) (w:World) (hg:w.cell? ⟨g,0,none⟩=some (.slice ao n c)) (hl:spl s=l) (hm:spm s=m) (_e1:IntKind.i64.wrap ((m:Int)-l)=d)
  (_e2:IntKind.i64.wrap ((l:Int)+x)=u) (_e3:IntKind.i64.wrap ((320:Int)-n)=y) (h1:¬Bad 0 18 s) (h2:¬Bad 0 d x) (h3:(s == 16)=true) (h4:((n:Int) == 0)=false) (h5:decide (y<u)=true) :
  Calls prog 183 #[.agg #[.int .i64 s,.int .i64 x],.pointer (some ⟨g,0,none⟩)] w (Wrote w true):=by
 have HGL:=J (World.block_lt_of_cell? w _ hg);have HG:=J hg;have HSP:=J (And.intro hl hm);have H1:=J h1;have H2:=J h2;clear h1 h2;clear hl hm hg;obtain ⟨B,hB⟩:=exq (w.heap.size);have HC:Hid (∀ W,Below (B+1) (w.alloc (.cells #[.int .i64 s,.int .i64 x] 187)) W→W.cell? ⟨B,0,none⟩=some (.int .i64 s)∧W.cell? ⟨B,1,none⟩=some (.int .i64 x)∧W.cell? ⟨g,0,none⟩=some (.slice ao n c)):=J fun W hb=>by
  subst hB;refine ⟨(hb.cell (p:=⟨_,0,none⟩) (Nat.lt_succ_self _)).trans ?_,(hb.cell (p:=⟨_,1,none⟩) (Nat.lt_succ_self _)).trans ?_,(hb.cell (p:=⟨g,0,none⟩) (Nat.lt_succ_of_lt HGL.out)).trans ?_⟩
  ·simp
  ·simp
  ·have h1:g≠w.heap.size:=Nat.ne_of_lt HGL.out
   have h2:=HG.out;simp [World.cell?_alloc_old,h1,h2]
 have HB0:Hid (Below (B+1) (w.alloc (.cells #[.int .i64 s,.int .i64 x] 187)) (w.alloc (.cells #[.int .i64 s,.int .i64 x] 187)).drew):=J (by
  subst hB;have h:=(Below.refl (w.alloc (.cells #[.int .i64 s,.int .i64 x] 187)).heap.size (w.alloc (.cells #[.int .i64 s,.int .i64 x] 187))).drew;simpa using h)
 have HF:Hid (∀ W,Below (B+1) (w.alloc (.cells #[.int .i64 s,.int .i64 x] 187)) W→Below w.heap.size w W):=J fun W hb=>by
  subst hB;exact ((Below.refl _ w).alloc (Nat.le_refl _) _).trans (hb.mono (Nat.le_succ _))
 have HSZ:Hid (B+1≤(w.alloc (.cells #[.int .i64 s,.int .i64 x] 187)).heap.size):=J (by subst hB;simp);go_enter func183,ntmps183;go_upto_region 2 with (go_at_call 181;refine (zu _ _).mono ?_;rintro e w5 ⟨rfl,rfl⟩;rw [HSP.out.1,HSP.out.2])
 rw [←hB];clear hB;generalize (w.alloc (.cells #[.int .i64 s,.int .i64 x] 187))=w3 at *;refine wp_region_held_drew (S:=fun W=>W.cell? ⟨B,0,none⟩=some (.int .i64 s)∧W.cell? ⟨B,1,none⟩=some (.int .i64 x)∧W.cell? ⟨g,0,none⟩=some (.slice ao n c)) (by kernel_rfl) (HC.out _ HB0.out) (fun hHeld=>?_)
 refine tA 1 (.pointer (some ⟨B,0,none⟩)) hHeld ?_;dsimp only [List.set];refine tA 2 (.int .i64 s) hHeld ?_;dsimp only [List.set];refine wpAnyH_ready (rs:=[0]) (by kernel_rfl) (by simp) ?_;refine AllReadyH.cons (o:=q1) rfl (fun K hK=>?_) AllReadyH.nil;refine zk (by rfl) _ _ (zB (.func 174) (.const (.int .i64 0)) (.const (.int .i64 18)) _ 174 #[] (.int .i64 0) (.int .i64 18) (fun _=>qh _ _) rfl rfl rfl rfl) (fun v W=>∃ p q,v=zW p q∧Kept W p q 0 18∧Below (B+1) w3 W) ?_ ?_
 ·refine (zm 0 18 _).mono ?_
  rintro e w1 ⟨p,q,rfl,hk,hb,hp,hq⟩;exact ⟨_,rfl,p,q,rfl,hk,HB0.out.trans (hb.mono (Nat.le_trans HSZ.out HB0.out.size))⟩
 rintro v1 w1 ⟨p1,q1,rfl,hk,hb⟩;have HK1:=J hk;have HB1:=J hb;clear hk hb;refine hK.out _ _ (HC.out _ HB1.out) (fun hHeld=>?_);clear hK K;try simp only [Act.put,List.setIfInBounds_toArray,List.set_cons_zero,List.set_cons_succ]
 refine wpAnyH_ready (rs:=[3]) (by kernel_rfl) (by simp) ?_;refine AllReadyH.cons (o:=q2) rfl (fun K hK=>?_) AllReadyH.nil;refine zk (by rfl) _ _ (zN (.tmp 12) (.tmp 14) _ 185 #[.pointer (some ⟨p1,0,none⟩),.pointer (some ⟨q1,0,none⟩)] (.int .i64 s) (fun _=>qu _ _) rfl rfl rfl) (fun v W=>v=.bool false∧W=w1) ?_ ?_
 ·refine (qM p1 q1 0 18 s _ HK1.out H1.out).mono ?_
  rintro e W ⟨rfl,rfl⟩;exact ⟨_,rfl,rfl,rfl⟩
 rintro v W ⟨rfl,rfl⟩;refine hK.out _ _ (HC.out _ HB1.out) (fun hHeld=>?_);clear hK K;try simp only [Act.put,List.setIfInBounds_toArray,List.set_cons_zero,List.set_cons_succ]
 refine tA 4 (.bool false) hHeld ?_;dsimp only [List.set];refine tA 5 (.int .i64 m) hHeld ?_;dsimp only [List.set];refine tA 6 (.int .i64 l) hHeld ?_;dsimp only [List.set];refine tA 7 (.int .i64 d) hHeld ?_;dsimp only [List.set];refine tA 9 (.pointer (some ⟨B,1,none⟩)) hHeld ?_;dsimp only [List.set];refine tA 10 (.int .i64 x) hHeld ?_;dsimp only [List.set];refine wpAnyH_ready (rs:=[8]) (by kernel_rfl) (by simp) ?_;refine AllReadyH.cons (o:=q3) rfl (fun K hK=>?_) AllReadyH.nil;refine zk (by rfl) _ _ (zB (.func 174) (.const (.int .i64 0)) (.tmp 19) _ 174 #[] (.int .i64 0) (.int .i64 d) (fun _=>qh _ _) rfl rfl rfl rfl) (fun v W=>∃ p q,v=zW p q∧Kept W p q 0 d∧Below (B+1) w3 W) ?_ ?_
 ·refine (zm 0 d _).mono ?_
  rintro e w2 ⟨p,q,rfl,hk,hb,hp,hq⟩;exact ⟨_,rfl,p,q,rfl,hk,HB1.out.trans (hb.mono (Nat.le_trans HSZ.out HB1.out.size))⟩
 rintro v2 w2 ⟨p2,q2,rfl,hk,hb⟩;have HK2:=J hk;have HB2:=J hb;clear hk hb;refine hK.out _ _ (HC.out _ HB2.out) (fun hHeld=>?_);clear hK K;try simp only [Act.put,List.setIfInBounds_toArray,List.set_cons_zero,List.set_cons_succ]
 refine wpAnyH_ready (rs:=[11]) (by kernel_rfl) (by simp) ?_;refine AllReadyH.cons (o:=q4) rfl (fun K hK=>?_) AllReadyH.nil;refine zk (by rfl) _ _ (zN (.tmp 20) (.tmp 22) _ 185 #[.pointer (some ⟨p2,0,none⟩),.pointer (some ⟨q2,0,none⟩)] (.int .i64 x) (fun _=>qu _ _) rfl rfl rfl) (fun v W=>v=.bool false∧W=w2) ?_ ?_
 ·refine (qM p2 q2 0 d x _ HK2.out H2.out).mono ?_
  rintro e W ⟨rfl,rfl⟩;exact ⟨_,rfl,rfl,rfl⟩
 rintro v W ⟨rfl,rfl⟩;refine hK.out _ _ (HC.out _ HB2.out) (fun hHeld=>?_);clear hK K;try simp only [Act.put,List.setIfInBounds_toArray,List.set_cons_zero,List.set_cons_succ]
 refine tA 12 (.bool false) hHeld ?_;dsimp only [List.set];refine tA 13 (.bool false) hHeld ?_;dsimp only [List.set];refine tA 14 (.pointer (some ⟨B,0,none⟩)) hHeld ?_;dsimp only [List.set];refine tA 15 (.int .i64 s) hHeld ?_;dsimp only [List.set];refine tA 16 (.bool true) hHeld ?_;dsimp only [List.set];refine tA 17 (.bool true) hHeld ?_;dsimp only [List.set];refine tA 18 (.slice ao n c) hHeld ?_;dsimp only [List.set];refine tA 19 (.int .i64 n) hHeld ?_;dsimp only [List.set];refine tA 20 (.bool false) hHeld ?_;dsimp only [List.set];refine tA 21 (.bool false) hHeld ?_;dsimp only [List.set];refine tA 22 (.bool false) hHeld ?_;dsimp only [List.set];refine tA 23 (.bool false) hHeld ?_;dsimp only [List.set];refine tA 24 (.int .i64 l) hHeld ?_;dsimp only [List.set];refine tA 25 (.pointer (some ⟨B,1,none⟩)) hHeld ?_;dsimp only [List.set];refine tA 26 (.int .i64 x) hHeld ?_;dsimp only [List.set];refine tA 27 (.int .i64 u) hHeld ?_;dsimp only [List.set];refine tA 28 (.slice ao n c) hHeld ?_;dsimp only [List.set];refine tA 29 (.int .i64 n) hHeld ?_;dsimp only [List.set];refine tA 30 (.int .i64 y) hHeld ?_;dsimp only [List.set];refine tA 31 (.bool true) hHeld ?_;dsimp only [List.set];refine tA 32 (.bool true) hHeld ?_;dsimp only [List.set];refine tA 33 (.bool true) hHeld ?_;dsimp only [List.set];refine wpAnyH_done (by kernel_rfl) ?_ _;clear hHeld;go_wp2;go_ret;exact ⟨rfl,HF.out _ HB2.out⟩
set_option maxHeartbeats 4000000 in
set_option maxRecDepth 100000 in
theorem zmC (g n c l m d:Nat) (ao:Option Addr) (s x u y:Int) (w:World) (hg:w.cell? ⟨g,0,none⟩=some (.slice ao n c)) (hl:spl s=l) (hm:spm s=m) (_e1:IntKind.i64.wrap ((m:Int)-l)=d)
  (_e2:IntKind.i64.wrap ((l:Int)+x)=u) (_e3:IntKind.i64.wrap ((320:Int)-n)=y) (h1:¬Bad 0 18 s) (h2:¬Bad 0 d x) (h3:(s == 16)=true) (h4:((n:Int) == 0)=false) (h5:decide (y<u)=false) :
  Calls prog 183 #[.agg #[.int .i64 s,.int .i64 x],.pointer (some ⟨g,0,none⟩)] w (Wrote w false):=by
 have HGL:=J (World.block_lt_of_cell? w _ hg);have HG:=J hg;have HSP:=J (And.intro hl hm);have H1:=J h1;have H2:=J h2;clear h1 h2;clear hl hm hg;obtain ⟨B,hB⟩:=exq (w.heap.size);have HC:Hid (∀ W,Below (B+1) (w.alloc (.cells #[.int .i64 s,.int .i64 x] 187)) W→W.cell? ⟨B,0,none⟩=some (.int .i64 s)∧W.cell? ⟨B,1,none⟩=some (.int .i64 x)∧W.cell? ⟨g,0,none⟩=some (.slice ao n c)):=J fun W hb=>by
  subst hB;refine ⟨(hb.cell (p:=⟨_,0,none⟩) (Nat.lt_succ_self _)).trans ?_,(hb.cell (p:=⟨_,1,none⟩) (Nat.lt_succ_self _)).trans ?_,(hb.cell (p:=⟨g,0,none⟩) (Nat.lt_succ_of_lt HGL.out)).trans ?_⟩
  ·simp
  ·simp
  ·have h1:g≠w.heap.size:=Nat.ne_of_lt HGL.out
   have h2:=HG.out;simp [World.cell?_alloc_old,h1,h2]
 have HB0:Hid (Below (B+1) (w.alloc (.cells #[.int .i64 s,.int .i64 x] 187)) (w.alloc (.cells #[.int .i64 s,.int .i64 x] 187)).drew):=J (by
  subst hB;have h:=(Below.refl (w.alloc (.cells #[.int .i64 s,.int .i64 x] 187)).heap.size (w.alloc (.cells #[.int .i64 s,.int .i64 x] 187))).drew;simpa using h)
 have HF:Hid (∀ W,Below (B+1) (w.alloc (.cells #[.int .i64 s,.int .i64 x] 187)) W→Below w.heap.size w W):=J fun W hb=>by
  subst hB;exact ((Below.refl _ w).alloc (Nat.le_refl _) _).trans (hb.mono (Nat.le_succ _))
 have HSZ:Hid (B+1≤(w.alloc (.cells #[.int .i64 s,.int .i64 x] 187)).heap.size):=J (by subst hB;simp);go_enter func183,ntmps183;go_upto_region 2 with (go_at_call 181;refine (zu _ _).mono ?_;rintro e w5 ⟨rfl,rfl⟩;rw [HSP.out.1,HSP.out.2])
 rw [←hB];clear hB;generalize (w.alloc (.cells #[.int .i64 s,.int .i64 x] 187))=w3 at *;refine wp_region_held_drew (S:=fun W=>W.cell? ⟨B,0,none⟩=some (.int .i64 s)∧W.cell? ⟨B,1,none⟩=some (.int .i64 x)∧W.cell? ⟨g,0,none⟩=some (.slice ao n c)) (by kernel_rfl) (HC.out _ HB0.out) (fun hHeld=>?_)
 refine tA 1 (.pointer (some ⟨B,0,none⟩)) hHeld ?_;dsimp only [List.set];refine tA 2 (.int .i64 s) hHeld ?_;dsimp only [List.set];refine wpAnyH_ready (rs:=[0]) (by kernel_rfl) (by simp) ?_;refine AllReadyH.cons (o:=q1) rfl (fun K hK=>?_) AllReadyH.nil;refine zk (by rfl) _ _ (zB (.func 174) (.const (.int .i64 0)) (.const (.int .i64 18)) _ 174 #[] (.int .i64 0) (.int .i64 18) (fun _=>qh _ _) rfl rfl rfl rfl) (fun v W=>∃ p q,v=zW p q∧Kept W p q 0 18∧Below (B+1) w3 W) ?_ ?_
 ·refine (zm 0 18 _).mono ?_
  rintro e w1 ⟨p,q,rfl,hk,hb,hp,hq⟩;exact ⟨_,rfl,p,q,rfl,hk,HB0.out.trans (hb.mono (Nat.le_trans HSZ.out HB0.out.size))⟩
 rintro v1 w1 ⟨p1,q1,rfl,hk,hb⟩;have HK1:=J hk;have HB1:=J hb;clear hk hb;refine hK.out _ _ (HC.out _ HB1.out) (fun hHeld=>?_);clear hK K;try simp only [Act.put,List.setIfInBounds_toArray,List.set_cons_zero,List.set_cons_succ]
 refine wpAnyH_ready (rs:=[3]) (by kernel_rfl) (by simp) ?_;refine AllReadyH.cons (o:=q2) rfl (fun K hK=>?_) AllReadyH.nil;refine zk (by rfl) _ _ (zN (.tmp 12) (.tmp 14) _ 185 #[.pointer (some ⟨p1,0,none⟩),.pointer (some ⟨q1,0,none⟩)] (.int .i64 s) (fun _=>qu _ _) rfl rfl rfl) (fun v W=>v=.bool false∧W=w1) ?_ ?_
 ·refine (qM p1 q1 0 18 s _ HK1.out H1.out).mono ?_
  rintro e W ⟨rfl,rfl⟩;exact ⟨_,rfl,rfl,rfl⟩
 rintro v W ⟨rfl,rfl⟩;refine hK.out _ _ (HC.out _ HB1.out) (fun hHeld=>?_);clear hK K;try simp only [Act.put,List.setIfInBounds_toArray,List.set_cons_zero,List.set_cons_succ]
 refine tA 4 (.bool false) hHeld ?_;dsimp only [List.set];refine tA 5 (.int .i64 m) hHeld ?_;dsimp only [List.set];refine tA 6 (.int .i64 l) hHeld ?_;dsimp only [List.set];refine tA 7 (.int .i64 d) hHeld ?_;dsimp only [List.set];refine tA 9 (.pointer (some ⟨B,1,none⟩)) hHeld ?_;dsimp only [List.set];refine tA 10 (.int .i64 x) hHeld ?_;dsimp only [List.set];refine wpAnyH_ready (rs:=[8]) (by kernel_rfl) (by simp) ?_;refine AllReadyH.cons (o:=q3) rfl (fun K hK=>?_) AllReadyH.nil;refine zk (by rfl) _ _ (zB (.func 174) (.const (.int .i64 0)) (.tmp 19) _ 174 #[] (.int .i64 0) (.int .i64 d) (fun _=>qh _ _) rfl rfl rfl rfl) (fun v W=>∃ p q,v=zW p q∧Kept W p q 0 d∧Below (B+1) w3 W) ?_ ?_
 ·refine (zm 0 d _).mono ?_
  rintro e w2 ⟨p,q,rfl,hk,hb,hp,hq⟩;exact ⟨_,rfl,p,q,rfl,hk,HB1.out.trans (hb.mono (Nat.le_trans HSZ.out HB1.out.size))⟩
 rintro v2 w2 ⟨p2,q2,rfl,hk,hb⟩;have HK2:=J hk;have HB2:=J hb;clear hk hb;refine hK.out _ _ (HC.out _ HB2.out) (fun hHeld=>?_);clear hK K;try simp only [Act.put,List.setIfInBounds_toArray,List.set_cons_zero,List.set_cons_succ]
 refine wpAnyH_ready (rs:=[11]) (by kernel_rfl) (by simp) ?_;refine AllReadyH.cons (o:=q4) rfl (fun K hK=>?_) AllReadyH.nil;refine zk (by rfl) _ _ (zN (.tmp 20) (.tmp 22) _ 185 #[.pointer (some ⟨p2,0,none⟩),.pointer (some ⟨q2,0,none⟩)] (.int .i64 x) (fun _=>qu _ _) rfl rfl rfl) (fun v W=>v=.bool false∧W=w2) ?_ ?_
 ·refine (qM p2 q2 0 d x _ HK2.out H2.out).mono ?_
  rintro e W ⟨rfl,rfl⟩;exact ⟨_,rfl,rfl,rfl⟩
 rintro v W ⟨rfl,rfl⟩;refine hK.out _ _ (HC.out _ HB2.out) (fun hHeld=>?_);clear hK K;try simp only [Act.put,List.setIfInBounds_toArray,List.set_cons_zero,List.set_cons_succ]
 refine tA 12 (.bool false) hHeld ?_;dsimp only [List.set];refine tA 13 (.bool false) hHeld ?_;dsimp only [List.set];refine tA 14 (.pointer (some ⟨B,0,none⟩)) hHeld ?_;dsimp only [List.set];refine tA 15 (.int .i64 s) hHeld ?_;dsimp only [List.set];refine tA 16 (.bool true) hHeld ?_;dsimp only [List.set];refine tA 17 (.bool true) hHeld ?_;dsimp only [List.set];refine tA 18 (.slice ao n c) hHeld ?_;dsimp only [List.set];refine tA 19 (.int .i64 n) hHeld ?_;dsimp only [List.set];refine tA 20 (.bool false) hHeld ?_;dsimp only [List.set];refine tA 21 (.bool false) hHeld ?_;dsimp only [List.set];refine tA 22 (.bool false) hHeld ?_;dsimp only [List.set];refine tA 23 (.bool false) hHeld ?_;dsimp only [List.set];refine tA 24 (.int .i64 l) hHeld ?_;dsimp only [List.set];refine tA 25 (.pointer (some ⟨B,1,none⟩)) hHeld ?_;dsimp only [List.set];refine tA 26 (.int .i64 x) hHeld ?_;dsimp only [List.set];refine tA 27 (.int .i64 u) hHeld ?_;dsimp only [List.set];refine tA 28 (.slice ao n c) hHeld ?_;dsimp only [List.set];refine tA 29 (.int .i64 n) hHeld ?_;dsimp only [List.set];refine tA 30 (.int .i64 y) hHeld ?_;dsimp only [List.set];refine tA 31 (.bool false) hHeld ?_;dsimp only [List.set];refine tA 32 (.bool false) hHeld ?_;dsimp only [List.set];refine tA 33 (.bool false) hHeld ?_;dsimp only [List.set];refine wpAnyH_done (by kernel_rfl) ?_ _;clear hHeld;go_wp2;go_ret;exact ⟨rfl,HF.out _ HB2.out⟩
set_option maxHeartbeats 4000000 in
set_option maxRecDepth 100000 in
theorem zmx (g n c l m d:Nat) (ao:Option Addr) (s x u y:Int) (w:World) (hg:w.cell? ⟨g,0,none⟩=some (.slice ao n c)) (hl:spl s=l) (hm:spm s=m) (_e1:IntKind.i64.wrap ((m:Int)-l)=d)
  (_e2:IntKind.i64.wrap ((l:Int)+x)=u) (_e3:IntKind.i64.wrap ((320:Int)-n)=y) (h1:¬Bad 0 18 s) (h2:¬Bad 0 d x) (h3:(s == 16)=false) (h5:decide (y<u)=true) :
  Calls prog 183 #[.agg #[.int .i64 s,.int .i64 x],.pointer (some ⟨g,0,none⟩)] w (Wrote w true):=by
 have HGL:=J (World.block_lt_of_cell? w _ hg);have HG:=J hg;have HSP:=J (And.intro hl hm);have H1:=J h1;have H2:=J h2;clear h1 h2;clear hl hm hg;obtain ⟨B,hB⟩:=exq (w.heap.size);have HC:Hid (∀ W,Below (B+1) (w.alloc (.cells #[.int .i64 s,.int .i64 x] 187)) W→W.cell? ⟨B,0,none⟩=some (.int .i64 s)∧W.cell? ⟨B,1,none⟩=some (.int .i64 x)∧W.cell? ⟨g,0,none⟩=some (.slice ao n c)):=J fun W hb=>by
  subst hB;refine ⟨(hb.cell (p:=⟨_,0,none⟩) (Nat.lt_succ_self _)).trans ?_,(hb.cell (p:=⟨_,1,none⟩) (Nat.lt_succ_self _)).trans ?_,(hb.cell (p:=⟨g,0,none⟩) (Nat.lt_succ_of_lt HGL.out)).trans ?_⟩
  ·simp
  ·simp
  ·have h1:g≠w.heap.size:=Nat.ne_of_lt HGL.out
   have h2:=HG.out;simp [World.cell?_alloc_old,h1,h2]
 have HB0:Hid (Below (B+1) (w.alloc (.cells #[.int .i64 s,.int .i64 x] 187)) (w.alloc (.cells #[.int .i64 s,.int .i64 x] 187)).drew):=J (by
  subst hB;have h:=(Below.refl (w.alloc (.cells #[.int .i64 s,.int .i64 x] 187)).heap.size (w.alloc (.cells #[.int .i64 s,.int .i64 x] 187))).drew;simpa using h)
 have HF:Hid (∀ W,Below (B+1) (w.alloc (.cells #[.int .i64 s,.int .i64 x] 187)) W→Below w.heap.size w W):=J fun W hb=>by
  subst hB;exact ((Below.refl _ w).alloc (Nat.le_refl _) _).trans (hb.mono (Nat.le_succ _))
 have HSZ:Hid (B+1≤(w.alloc (.cells #[.int .i64 s,.int .i64 x] 187)).heap.size):=J (by subst hB;simp);go_enter func183,ntmps183;go_upto_region 2 with (go_at_call 181;refine (zu _ _).mono ?_;rintro e w5 ⟨rfl,rfl⟩;rw [HSP.out.1,HSP.out.2])
 rw [←hB];clear hB;generalize (w.alloc (.cells #[.int .i64 s,.int .i64 x] 187))=w3 at *;refine wp_region_held_drew (S:=fun W=>W.cell? ⟨B,0,none⟩=some (.int .i64 s)∧W.cell? ⟨B,1,none⟩=some (.int .i64 x)∧W.cell? ⟨g,0,none⟩=some (.slice ao n c)) (by kernel_rfl) (HC.out _ HB0.out) (fun hHeld=>?_)
 refine tA 1 (.pointer (some ⟨B,0,none⟩)) hHeld ?_;dsimp only [List.set];refine tA 2 (.int .i64 s) hHeld ?_;dsimp only [List.set];refine wpAnyH_ready (rs:=[0]) (by kernel_rfl) (by simp) ?_;refine AllReadyH.cons (o:=q1) rfl (fun K hK=>?_) AllReadyH.nil;refine zk (by rfl) _ _ (zB (.func 174) (.const (.int .i64 0)) (.const (.int .i64 18)) _ 174 #[] (.int .i64 0) (.int .i64 18) (fun _=>qh _ _) rfl rfl rfl rfl) (fun v W=>∃ p q,v=zW p q∧Kept W p q 0 18∧Below (B+1) w3 W) ?_ ?_
 ·refine (zm 0 18 _).mono ?_
  rintro e w1 ⟨p,q,rfl,hk,hb,hp,hq⟩;exact ⟨_,rfl,p,q,rfl,hk,HB0.out.trans (hb.mono (Nat.le_trans HSZ.out HB0.out.size))⟩
 rintro v1 w1 ⟨p1,q1,rfl,hk,hb⟩;have HK1:=J hk;have HB1:=J hb;clear hk hb;refine hK.out _ _ (HC.out _ HB1.out) (fun hHeld=>?_);clear hK K;try simp only [Act.put,List.setIfInBounds_toArray,List.set_cons_zero,List.set_cons_succ]
 refine wpAnyH_ready (rs:=[3]) (by kernel_rfl) (by simp) ?_;refine AllReadyH.cons (o:=q2) rfl (fun K hK=>?_) AllReadyH.nil;refine zk (by rfl) _ _ (zN (.tmp 12) (.tmp 14) _ 185 #[.pointer (some ⟨p1,0,none⟩),.pointer (some ⟨q1,0,none⟩)] (.int .i64 s) (fun _=>qu _ _) rfl rfl rfl) (fun v W=>v=.bool false∧W=w1) ?_ ?_
 ·refine (qM p1 q1 0 18 s _ HK1.out H1.out).mono ?_
  rintro e W ⟨rfl,rfl⟩;exact ⟨_,rfl,rfl,rfl⟩
 rintro v W ⟨rfl,rfl⟩;refine hK.out _ _ (HC.out _ HB1.out) (fun hHeld=>?_);clear hK K;try simp only [Act.put,List.setIfInBounds_toArray,List.set_cons_zero,List.set_cons_succ]
 refine tA 4 (.bool false) hHeld ?_;dsimp only [List.set];refine tA 5 (.int .i64 m) hHeld ?_;dsimp only [List.set];refine tA 6 (.int .i64 l) hHeld ?_;dsimp only [List.set];refine tA 7 (.int .i64 d) hHeld ?_;dsimp only [List.set];refine tA 9 (.pointer (some ⟨B,1,none⟩)) hHeld ?_;dsimp only [List.set];refine tA 10 (.int .i64 x) hHeld ?_;dsimp only [List.set];refine wpAnyH_ready (rs:=[8]) (by kernel_rfl) (by simp) ?_;refine AllReadyH.cons (o:=q3) rfl (fun K hK=>?_) AllReadyH.nil;refine zk (by rfl) _ _ (zB (.func 174) (.const (.int .i64 0)) (.tmp 19) _ 174 #[] (.int .i64 0) (.int .i64 d) (fun _=>qh _ _) rfl rfl rfl rfl) (fun v W=>∃ p q,v=zW p q∧Kept W p q 0 d∧Below (B+1) w3 W) ?_ ?_
 ·refine (zm 0 d _).mono ?_
  rintro e w2 ⟨p,q,rfl,hk,hb,hp,hq⟩;exact ⟨_,rfl,p,q,rfl,hk,HB1.out.trans (hb.mono (Nat.le_trans HSZ.out HB1.out.size))⟩
 rintro v2 w2 ⟨p2,q2,rfl,hk,hb⟩;have HK2:=J hk;have HB2:=J hb;clear hk hb;refine hK.out _ _ (HC.out _ HB2.out) (fun hHeld=>?_);clear hK K;try simp only [Act.put,List.setIfInBounds_toArray,List.set_cons_zero,List.set_cons_succ]
 refine wpAnyH_ready (rs:=[11]) (by kernel_rfl) (by simp) ?_;refine AllReadyH.cons (o:=q4) rfl (fun K hK=>?_) AllReadyH.nil;refine zk (by rfl) _ _ (zN (.tmp 20) (.tmp 22) _ 185 #[.pointer (some ⟨p2,0,none⟩),.pointer (some ⟨q2,0,none⟩)] (.int .i64 x) (fun _=>qu _ _) rfl rfl rfl) (fun v W=>v=.bool false∧W=w2) ?_ ?_
 ·refine (qM p2 q2 0 d x _ HK2.out H2.out).mono ?_
  rintro e W ⟨rfl,rfl⟩;exact ⟨_,rfl,rfl,rfl⟩
 rintro v W ⟨rfl,rfl⟩;refine hK.out _ _ (HC.out _ HB2.out) (fun hHeld=>?_);clear hK K;try simp only [Act.put,List.setIfInBounds_toArray,List.set_cons_zero,List.set_cons_succ]
 refine tA 12 (.bool false) hHeld ?_;dsimp only [List.set];refine tA 13 (.bool false) hHeld ?_;dsimp only [List.set];refine tA 14 (.pointer (some ⟨B,0,none⟩)) hHeld ?_;dsimp only [List.set];refine tA 15 (.int .i64 s) hHeld ?_;dsimp only [List.set];refine tA 16 (.bool false) hHeld ?_;dsimp only [List.set];refine tA 17 (.bool false) hHeld ?_;dsimp only [List.set];refine tB 18 hHeld ?_;refine tB 19 hHeld ?_;refine tB 20 hHeld ?_;refine tA 21 (.bool false) hHeld ?_;dsimp only [List.set];refine tA 22 (.bool false) hHeld ?_;dsimp only [List.set];refine tA 23 (.bool false) hHeld ?_;dsimp only [List.set];refine tA 24 (.int .i64 l) hHeld ?_;dsimp only [List.set];refine tA 25 (.pointer (some ⟨B,1,none⟩)) hHeld ?_;dsimp only [List.set];refine tA 26 (.int .i64 x) hHeld ?_;dsimp only [List.set];refine tA 27 (.int .i64 u) hHeld ?_;dsimp only [List.set];refine tA 28 (.slice ao n c) hHeld ?_;dsimp only [List.set];refine tA 29 (.int .i64 n) hHeld ?_;dsimp only [List.set];refine tA 30 (.int .i64 y) hHeld ?_;dsimp only [List.set];refine tA 31 (.bool true) hHeld ?_;dsimp only [List.set];refine tA 32 (.bool true) hHeld ?_;dsimp only [List.set];refine tA 33 (.bool true) hHeld ?_;dsimp only [List.set];refine wpAnyH_done (by kernel_rfl) ?_ _;clear hHeld;go_wp2;go_ret;exact ⟨rfl,HF.out _ HB2.out⟩
set_option maxHeartbeats 4000000 in
set_option maxRecDepth 100000 in
theorem zmE (g n c l m d:Nat) (ao:Option Addr) (s x u y:Int) (w:World) (hg:w.cell? ⟨g,0,none⟩=some (.slice ao n c)) (hl:spl s=l) (hm:spm s=m) (_e1:IntKind.i64.wrap ((m:Int)-l)=d)
  (_e2:IntKind.i64.wrap ((l:Int)+x)=u) (_e3:IntKind.i64.wrap ((320:Int)-n)=y) (h1:¬Bad 0 18 s) (h2:¬Bad 0 d x) (h3:(s == 16)=false) (h5:decide (y<u)=false) :
  Calls prog 183 #[.agg #[.int .i64 s,.int .i64 x],.pointer (some ⟨g,0,none⟩)] w (Wrote w false):=by
 have HGL:=J (World.block_lt_of_cell? w _ hg);have HG:=J hg;have HSP:=J (And.intro hl hm);have H1:=J h1;have H2:=J h2;clear h1 h2;clear hl hm hg;obtain ⟨B,hB⟩:=exq (w.heap.size);have HC:Hid (∀ W,Below (B+1) (w.alloc (.cells #[.int .i64 s,.int .i64 x] 187)) W→W.cell? ⟨B,0,none⟩=some (.int .i64 s)∧W.cell? ⟨B,1,none⟩=some (.int .i64 x)∧W.cell? ⟨g,0,none⟩=some (.slice ao n c)):=J fun W hb=>by
  subst hB;refine ⟨(hb.cell (p:=⟨_,0,none⟩) (Nat.lt_succ_self _)).trans ?_,(hb.cell (p:=⟨_,1,none⟩) (Nat.lt_succ_self _)).trans ?_,(hb.cell (p:=⟨g,0,none⟩) (Nat.lt_succ_of_lt HGL.out)).trans ?_⟩
  ·simp
  ·simp
  ·have h1:g≠w.heap.size:=Nat.ne_of_lt HGL.out
   have h2:=HG.out;simp [World.cell?_alloc_old,h1,h2]
 have HB0:Hid (Below (B+1) (w.alloc (.cells #[.int .i64 s,.int .i64 x] 187)) (w.alloc (.cells #[.int .i64 s,.int .i64 x] 187)).drew):=J (by
  subst hB;have h:=(Below.refl (w.alloc (.cells #[.int .i64 s,.int .i64 x] 187)).heap.size (w.alloc (.cells #[.int .i64 s,.int .i64 x] 187))).drew;simpa using h)
 have HF:Hid (∀ W,Below (B+1) (w.alloc (.cells #[.int .i64 s,.int .i64 x] 187)) W→Below w.heap.size w W):=J fun W hb=>by
  subst hB;exact ((Below.refl _ w).alloc (Nat.le_refl _) _).trans (hb.mono (Nat.le_succ _))
 have HSZ:Hid (B+1≤(w.alloc (.cells #[.int .i64 s,.int .i64 x] 187)).heap.size):=J (by subst hB;simp);go_enter func183,ntmps183;go_upto_region 2 with (go_at_call 181;refine (zu _ _).mono ?_;rintro e w5 ⟨rfl,rfl⟩;rw [HSP.out.1,HSP.out.2])
 rw [←hB];clear hB;generalize (w.alloc (.cells #[.int .i64 s,.int .i64 x] 187))=w3 at *;refine wp_region_held_drew (S:=fun W=>W.cell? ⟨B,0,none⟩=some (.int .i64 s)∧W.cell? ⟨B,1,none⟩=some (.int .i64 x)∧W.cell? ⟨g,0,none⟩=some (.slice ao n c)) (by kernel_rfl) (HC.out _ HB0.out) (fun hHeld=>?_)
 refine tA 1 (.pointer (some ⟨B,0,none⟩)) hHeld ?_;dsimp only [List.set];refine tA 2 (.int .i64 s) hHeld ?_;dsimp only [List.set];refine wpAnyH_ready (rs:=[0]) (by kernel_rfl) (by simp) ?_;refine AllReadyH.cons (o:=q1) rfl (fun K hK=>?_) AllReadyH.nil;refine zk (by rfl) _ _ (zB (.func 174) (.const (.int .i64 0)) (.const (.int .i64 18)) _ 174 #[] (.int .i64 0) (.int .i64 18) (fun _=>qh _ _) rfl rfl rfl rfl) (fun v W=>∃ p q,v=zW p q∧Kept W p q 0 18∧Below (B+1) w3 W) ?_ ?_
 ·refine (zm 0 18 _).mono ?_
  rintro e w1 ⟨p,q,rfl,hk,hb,hp,hq⟩;exact ⟨_,rfl,p,q,rfl,hk,HB0.out.trans (hb.mono (Nat.le_trans HSZ.out HB0.out.size))⟩
 rintro v1 w1 ⟨p1,q1,rfl,hk,hb⟩;have HK1:=J hk;have HB1:=J hb;clear hk hb;refine hK.out _ _ (HC.out _ HB1.out) (fun hHeld=>?_);clear hK K;try simp only [Act.put,List.setIfInBounds_toArray,List.set_cons_zero,List.set_cons_succ]
 refine wpAnyH_ready (rs:=[3]) (by kernel_rfl) (by simp) ?_;refine AllReadyH.cons (o:=q2) rfl (fun K hK=>?_) AllReadyH.nil;refine zk (by rfl) _ _ (zN (.tmp 12) (.tmp 14) _ 185 #[.pointer (some ⟨p1,0,none⟩),.pointer (some ⟨q1,0,none⟩)] (.int .i64 s) (fun _=>qu _ _) rfl rfl rfl) (fun v W=>v=.bool false∧W=w1) ?_ ?_
 ·refine (qM p1 q1 0 18 s _ HK1.out H1.out).mono ?_
  rintro e W ⟨rfl,rfl⟩;exact ⟨_,rfl,rfl,rfl⟩
 rintro v W ⟨rfl,rfl⟩;refine hK.out _ _ (HC.out _ HB1.out) (fun hHeld=>?_);clear hK K;try simp only [Act.put,List.setIfInBounds_toArray,List.set_cons_zero,List.set_cons_succ]
 refine tA 4 (.bool false) hHeld ?_;dsimp only [List.set];refine tA 5 (.int .i64 m) hHeld ?_;dsimp only [List.set];refine tA 6 (.int .i64 l) hHeld ?_;dsimp only [List.set];refine tA 7 (.int .i64 d) hHeld ?_;dsimp only [List.set];refine tA 9 (.pointer (some ⟨B,1,none⟩)) hHeld ?_;dsimp only [List.set];refine tA 10 (.int .i64 x) hHeld ?_;dsimp only [List.set];refine wpAnyH_ready (rs:=[8]) (by kernel_rfl) (by simp) ?_;refine AllReadyH.cons (o:=q3) rfl (fun K hK=>?_) AllReadyH.nil;refine zk (by rfl) _ _ (zB (.func 174) (.const (.int .i64 0)) (.tmp 19) _ 174 #[] (.int .i64 0) (.int .i64 d) (fun _=>qh _ _) rfl rfl rfl rfl) (fun v W=>∃ p q,v=zW p q∧Kept W p q 0 d∧Below (B+1) w3 W) ?_ ?_
 ·refine (zm 0 d _).mono ?_
  rintro e w2 ⟨p,q,rfl,hk,hb,hp,hq⟩;exact ⟨_,rfl,p,q,rfl,hk,HB1.out.trans (hb.mono (Nat.le_trans HSZ.out HB1.out.size))⟩
 rintro v2 w2 ⟨p2,q2,rfl,hk,hb⟩;have HK2:=J hk;have HB2:=J hb;clear hk hb;refine hK.out _ _ (HC.out _ HB2.out) (fun hHeld=>?_);clear hK K;try simp only [Act.put,List.setIfInBounds_toArray,List.set_cons_zero,List.set_cons_succ]
 refine wpAnyH_ready (rs:=[11]) (by kernel_rfl) (by simp) ?_;refine AllReadyH.cons (o:=q4) rfl (fun K hK=>?_) AllReadyH.nil;refine zk (by rfl) _ _ (zN (.tmp 20) (.tmp 22) _ 185 #[.pointer (some ⟨p2,0,none⟩),.pointer (some ⟨q2,0,none⟩)] (.int .i64 x) (fun _=>qu _ _) rfl rfl rfl) (fun v W=>v=.bool false∧W=w2) ?_ ?_
 ·refine (qM p2 q2 0 d x _ HK2.out H2.out).mono ?_
  rintro e W ⟨rfl,rfl⟩;exact ⟨_,rfl,rfl,rfl⟩
 rintro v W ⟨rfl,rfl⟩;refine hK.out _ _ (HC.out _ HB2.out) (fun hHeld=>?_);clear hK K;try simp only [Act.put,List.setIfInBounds_toArray,List.set_cons_zero,List.set_cons_succ]
 refine tA 12 (.bool false) hHeld ?_;dsimp only [List.set];refine tA 13 (.bool false) hHeld ?_;dsimp only [List.set];refine tA 14 (.pointer (some ⟨B,0,none⟩)) hHeld ?_;dsimp only [List.set];refine tA 15 (.int .i64 s) hHeld ?_;dsimp only [List.set];refine tA 16 (.bool false) hHeld ?_;dsimp only [List.set];refine tA 17 (.bool false) hHeld ?_;dsimp only [List.set];refine tB 18 hHeld ?_;refine tB 19 hHeld ?_;refine tB 20 hHeld ?_;refine tA 21 (.bool false) hHeld ?_;dsimp only [List.set];refine tA 22 (.bool false) hHeld ?_;dsimp only [List.set];refine tA 23 (.bool false) hHeld ?_;dsimp only [List.set];refine tA 24 (.int .i64 l) hHeld ?_;dsimp only [List.set];refine tA 25 (.pointer (some ⟨B,1,none⟩)) hHeld ?_;dsimp only [List.set];refine tA 26 (.int .i64 x) hHeld ?_;dsimp only [List.set];refine tA 27 (.int .i64 u) hHeld ?_;dsimp only [List.set];refine tA 28 (.slice ao n c) hHeld ?_;dsimp only [List.set];refine tA 29 (.int .i64 n) hHeld ?_;dsimp only [List.set];refine tA 30 (.int .i64 y) hHeld ?_;dsimp only [List.set];refine tA 31 (.bool false) hHeld ?_;dsimp only [List.set];refine tA 32 (.bool false) hHeld ?_;dsimp only [List.set];refine tA 33 (.bool false) hHeld ?_;dsimp only [List.set];refine wpAnyH_done (by kernel_rfl) ?_ _;clear hHeld;go_wp2;go_ret;exact ⟨rfl,HF.out _ HB2.out⟩
end
section
open Go.RowKit
theorem KC (g n c:Nat) (ao:Option Addr) (s x:Int) (w:World) (hg:w.cell? ⟨g,0,none⟩=some (.slice ao n c)) (hn:n≤320) :
  Calls prog 183 #[.agg #[.int .i64 s,.int .i64 x],.pointer (some ⟨g,0,none⟩)] w (Wrote w (decide (Wi s x n))):=by
 have hs:=JG s;have e1:IntKind.i64.wrap ((spm s:Int)-spl s)=((spm s-spl s:Nat):Int):=by rw [IntKind.wrap_i64];omega
 have e3:IntKind.i64.wrap ((320:Int)-n)=320-n:=by rw [IntKind.wrap_i64];omega
 have e5:((spm s-spl s:Nat):Int)=(spm s:Int)-spl s:=by omega
 by_cases h1:Bad 0 18 s
 ·rw [decide_eq_true (show Wi s x n from .inl h1)]
  exact zmI g n c (spl s) (spm s) _ ao s x _ _ w hg rfl rfl e1 rfl e3 h1
 ·by_cases h2:Bad 0 ((spm s:Int)-spl s) x
  ·rw [decide_eq_true (show Wi s x n from .inr (.inl h2))]
   exact zmu g n c (spl s) (spm s) _ ao s x _ _ w hg rfl rfl e1 rfl e3 h1 (by rw [e5];exact h2)
  ·have e2:IntKind.i64.wrap ((spl s:Int)+x)=spl s+x:=by unfold Bad at h2;rw [IntKind.wrap_i64];omega
   have h2':¬Bad 0 ((spm s-spl s:Nat):Int) x:=by rw [e5];exact h2
   by_cases h3:s=16
   ·have h3':(s == 16)=true:=by simp [h3]
    by_cases h4:n=0
    ·rw [decide_eq_true (show Wi s x n from .inr (.inr (.inl ⟨h3,h4⟩)))]
     exact zmA g n c (spl s) (spm s) _ ao s x _ _ w hg rfl rfl e1 e2 e3 h1 h2' h3' (by simp [h4])
    ·have h4':((n:Int) == 0)=false:=by simp [h4]
     by_cases h5:(320-n:Int)<spl s+x
     ·rw [decide_eq_true (show Wi s x n from .inr (.inr (.inr h5)))]
      exact zmz g n c (spl s) (spm s) _ ao s x _ _ w hg rfl rfl e1 e2 e3 h1 h2' h3' h4' (decide_eq_true h5)
     ·rw [decide_eq_false (show ¬Wi s x n from fun h=>by rcases h with h | h | h | h;exact h1 h;exact h2 h;exact h4 h.2;exact h5 h)]
      exact zmC g n c (spl s) (spm s) _ ao s x _ _ w hg rfl rfl e1 e2 e3 h1 h2' h3' h4' (decide_eq_false h5)
   ·have h3':(s == 16)=false:=by simp [h3]
    by_cases h5:(320-n:Int)<spl s+x
    ·rw [decide_eq_true (show Wi s x n from .inr (.inr (.inr h5)))]
     exact zmx g n c (spl s) (spm s) _ ao s x _ _ w hg rfl rfl e1 e2 e3 h1 h2' h3' (decide_eq_true h5)
    ·rw [decide_eq_false (show ¬Wi s x n from fun h=>by rcases h with h | h | h | h;exact h1 h;exact h2 h;exact h3 h.1;exact h5 h)]
     exact zmE g n c (spl s) (spm s) _ ao s x _ _ w hg rfl rfl e1 e2 e3 h1 h2' h3' (decide_eq_false h5)
end
section
open Go.Lib renaming hid → J
open Go.RowKit
theorem jK (w:World) (e:TypeId) (u:Value):zI (w.alloc (.cells #[u] e)) (.slice (some ⟨w.heap.size,0,none⟩) 1 1) 1 [u]:=by
 refine .inr ⟨_,1,rfl,fun j x hx=>?_⟩;rw [Addr.add_lit,Nat.zero_add,(Blk.made w e _).cell];have:j<1:=(List.getElem?_eq_some_iff.1 hx).1;obtain rfl:j=0:=by omega
 simpa using hx
structure Un (w:World) (cx:Nat) (ts:List Int) (ao:Option Addr) (c:Nat) (wr:World):Prop where
 box:Blk wr cx 40 #[.slice ao ts.length c]
 below:Below w.heap.size w wr
 own:wr.ownsRow (cx+1) 3 1 (.slice ao ts.length c) ts.length (iv ts)
 lo:w.heap.size≤cx
 hi:cx+1≤wr.heap.size
theorem Un.cell {w wr:World}{cx c:Nat}{ts:List Int}{ao:Option Addr}(h:Un w cx ts ao c wr):wr.cell? ⟨cx,0,none⟩=some (.slice ao ts.length c):=h.box.cell 0
theorem Un.grow {w wr w':World}{cx c:Nat}{ts:List Int}{ao:Option Addr}(h:Un w cx ts ao c wr) (hb:Below wr.heap.size wr w'):Un w cx ts ao c w':=
 ⟨h.box.below hb,h.below.trans (hb.mono h.below.size),ownsRow_below h.own hb,h.lo,Nat.le_trans h.hi hb.size⟩
theorem Un.is {w wr:World}{cx c:Nat}{ts:List Int}{ao:Option Addr}(h:Un w cx ts ao c wr):IS wr ao ts:=j9 h.own rfl
theorem Un.alloc {w wr:World}{cx c:Nat}{ts:List Int}{ao:Option Addr}(h:Un w cx ts ao c wr) (o:Obj):Un w cx ts ao c (wr.alloc o):=h.grow ((Below.refl _ _).alloc (Nat.le_refl _) _)
theorem Un.mid {w wr w3:World}{cx c n:Nat}{ts:List Int}{xs:List Value}{ao:Option Addr}{v:Value}{o:Obj}(h:Un w cx ts ao c wr) (hA:Apg (wr.alloc o) (cx+1) 3 1 (.slice ao ts.length c) n xs v w3) :
  Blk w3 cx 40 #[.slice ao ts.length c]∧Below w.heap.size w w3∧cx+1≤w3.heap.size:=by
 have h1:=(h.alloc o);have hBe:=hA.below h1.own h1.hi;exact ⟨h1.box.low hBe (Nat.lt_succ_self _),h1.below.trans (hBe.mono (Nat.le_succ_of_le h1.lo)),Nat.le_trans h1.hi hBe.size⟩
theorem Un.put {w wr w3:World}{cx c:Nat}{ts:List Int}{ao ao2:Option Addr}{c2:Nat}{x:Int}{o:Obj}(h:Un w cx ts ao c wr)
  (hA:Apg (wr.alloc o) (cx+1) 3 1 (.slice ao ts.length c) (ts.length+1) (iv ts++[.int .i64 x]) (.slice ao2 (ts.length+1:Nat) c2) w3):Un w cx (ts++[x]) ao2 c2 (w3.setCell ⟨cx,0,none⟩ (.slice ao2 (ts.length+1:Nat) c2)):=by
 have e:iv ts++[.int .i64 x]=iv (ts++[x]):=by simp [iv]
 rw [e] at hA;obtain ⟨h1,h2,h3⟩:=h.mid hA;have hl:(ts++[x]).length=ts.length+1:=by simp
 refine ⟨?_,?_,?_,h.lo,by simpa using h3⟩
 ·rw [hl];exact h1.setCell 0 _
 ·exact h2.setCell h.lo _
 ·rw [hl]
  refine zd hA.own ((Touch.refl (fun k=>k=cx) w3).setCell ⟨cx,0,none⟩ _ (.inl rfl)) fun k hk e=>?_
  have:=(hA.own.lt k hk).1;omega
theorem zJ {r:List (Int × Int)}{k:Nat}(hk:k<r.length) (ts:List Int):un (r.drop k) ts=if Wi (itm r k).1 (itm r k).2 ts.length then none else un (r.drop (k+1)) (ts++List.replicate ((spl (itm r k).1:Int)+(itm r k).2).toNat (tv (itm r k).1 ts)):=by
 have e:r.drop k=itm r k::r.drop (k+1):=by
  rw [List.drop_eq_getElem_cons hk];simp [itm,List.getD,hk]
 rw [e];rfl
theorem Qz {r:List (Int × Int)}{ts:List Int}:un (r.drop r.length) ts=some ts:=by
 rw [List.drop_length,un]
def Unq (A:Option (List Int)) (w:World) (e:Ending) (w':World):Prop:=Below w.heap.size w w'∧
 (A=none→e=.returned (.tuple #[.slice none 0 0,.bool false]))∧∀ ts,A=some ts→∃ ao c,e=.returned (.tuple #[.slice ao ts.length c,.bool true])∧IS w' ao ts∧ts.length≤c
theorem jU {w:World}{base e size n c:Nat}{ao:Option Addr}{xs:List Value}(h:w.ownsRow base e size (.slice ao n c) n xs):n≤c:=by
 rcases h.2 with ⟨e1,h0⟩ | ⟨g,cap,cur,e1,_,_,hnc,_⟩
 ·omega
 ·simp only [Value.slice.injEq] at e1
  omega
set_option maxHeartbeats 4000000 in
theorem JU (ao:Option Addr) (c:Nat) (r:List (Int × Int)) (w:World) (h:TS w ao r) (hl:r.length≤1000) :
  Calls prog 166 #[.slice ao r.length c] w (Unq (un r []) w):=by
 have HI:Hid (∀ W,Below w.heap.size w W→TS W ao r):=J fun W hW=>h.on hW
 clear h;obtain ⟨A,hA⟩:=exq (un r []);rw [←hA];have HA0:=J hA;clear hA;go_enter func166,ntmps166;go_wp2;obtain ⟨cx,hcx⟩:=exq (w.heap.size);have H0:Hid (Un w cx [] none 0 (w.alloc (.cells #[.slice none 0 0] 40))):=J ⟨by rw [hcx];exact Blk.made _ _ _,(Below.refl _ w).alloc (Nat.le_refl _) _,World.ownsRow_nil _ _ _ _,by omega,by rw [hcx];simp⟩;rw [←hcx];clear hcx;go_loopw [14] (fun iv' wr=>∃ (k:Nat) (ts:List Int) (bo:Option Addr) (cu:Nat),k≤r.length∧iv' = .int .i64 k∧ts.length≤320∧un (r.drop k) ts=A∧Un w cx ts bo cu wr) (fun iv' _=>r.length-(intOf iv').toNat)
 case atStart=>exact ⟨0,[],none,0,Nat.zero_le _,rfl,by simp,HA0.out.symm,H0.out⟩
 case round=>
  obtain ⟨k,ts,bo,cu,hk,rfl,htl,hun,hU⟩:=hrel;have HUN:=J hun;have HU:=J hU;clear hun hU H0;by_cases hlt:k<r.length
  ·have hkk:(k:Int)<r.length:=by omega
   obtain ⟨b1,o1,rfl,q1,q2⟩:=(HI.out _ HU.out.below).at hlt;obtain ⟨s,hs⟩:=exq ((itm r k).1);obtain ⟨x,hx⟩:=exq ((itm r k).2);have HSX:=J (And.intro hs hx);rw [←hs] at q1;rw [←hx] at q2;clear hs hx;by_cases hw:Wi s x ts.length
   ·have HW:=J (decide_eq_true hw)
    clear hw;go_wp2_with (go_at_call 183;(refine (KC cx ts.length cu bo s x _ (HU.out.alloc _).cell htl).mono ?_);rintro e w1 ⟨rfl,hb1⟩;have HU1:=J ((HU.out.alloc _).grow hb1);rw [HW.out];clear hb1);go_ret2
    refine ⟨HU1.out.below,fun _=>rfl,fun ts' h=>?_⟩;exfalso;have h1:=HUN.out;have h2:=HSX.out;rw [h,zJ hlt,←h2.1,←h2.2,if_pos (of_decide_eq_true HW.out)] at h1;cases h1
   ·have HW:=J (decide_eq_false hw)
    have HWN:=J hw;have hsl:=JG s;obtain ⟨l,hl⟩:=exq (spl s);obtain ⟨m,hm⟩:=exq (spm s);have HSP:=J (And.intro hl.symm hm.symm);obtain ⟨n,hn⟩:=exq ((l+x).toNat);have hnb:ts.length+n≤320:=by unfold Wi Bad at hw;omega
    have e1:IntKind.i64.wrap ((l:Int)+x)=n:=by unfold Wi Bad at hw;rw [IntKind.wrap_i64];omega
    have HN:=J hn;obtain ⟨t,ht⟩:=exq (tv s ts);have HTV:=J ht.symm;clear ht;clear hsl hl hm hn hw;go_wp2_with (first
     | (go_at_call 183;(refine (KC cx ts.length cu bo s x _ (HU.out.alloc _).cell htl).mono ?_);rintro e w1 ⟨rfl,hb1⟩;have HU1:=J ((HU.out.alloc _).grow hb1);have HX1:=J ((Blk.made wr 187 #[.int .i64 s,.int .i64 x]).below hb1);rw [HW.out];clear hb1;have p1:=HX1.out.cell 0;have p2:=HX1.out.cell 1;have p3:=HU1.out.cell)
     | (go_at_call 181;refine (zu _ _).mono ?_;rintro e w5 ⟨rfl,rfl⟩;rw [HSP.out.1,HSP.out.2])
     | (go_at_call 184;refine (zgg bo cu s ts _ HU1.out.is (fun e h0=>HWN.out (.inr (.inr (.inl ⟨e,by rw [h0];rfl⟩)))) (by omega)).mono ?_;rintro e w6 ⟨rfl,rfl⟩;rw [HTV.out]))
    clear p1 p2 p3 e1;have H1:Hid (Un w cx (ts++List.replicate 0 t) bo cu w6):=J (by simpa using HU1.out);go_loopw [35] (fun jv wr2=>∃ (j:Nat) (bo2:Option Addr) (cu2:Nat),jv=.int .i64 j∧j≤n∧Un w cx (ts++List.replicate j t) bo2 cu2 wr2) (fun jv _=>n-(intOf jv).toNat)
    case atStart=>exact ⟨0,bo,cu,rfl,Nat.zero_le _,H1.out⟩
    case round=>
     obtain ⟨j,bo2,cu2,rfl,hj,hU2⟩:=hrel;have HU2:=J hU2;clear hU2 H1 HU1 HX1 HU q1 q2;obtain ⟨ts2,ht2⟩:=exq (ts++List.replicate j t);have HT2:=J ht2;have ht2l:ts2.length≤320:=by rw [ht2];simp;omega
     rw [←ht2] at HU2;clear ht2;by_cases hlj:j<n
     ·have hlj':(j:Int)<n:=by omega
      have p1:=HU2.out.cell;go_wp2_with (refine ze kg rfl (.tmp 37) (.tmp 39) rfl (cx+1) (.slice bo2 ts2.length cu2) (.slice (some ⟨wr.heap.size,0,none⟩) 1 1) ts2.length 1 (iv ts2) [.int .i64 t] rfl rfl (World.ownsRow.alloc (w:=wr) HU2.out.own _) (jK wr 3 _) rfl (by simp [Value.oneCell']) (by have:=HU2.out.hi;simp;omega) (by omega) (by omega) ?_;intro ao2 cc2 w3 hA;have HA:=J hA;clear hA;have p2:=(HU2.out.mid HA.out).1.cell 0;have p3:=(HU2.out.mid HA.out).1.free 0);go_roundw;case rel=>
       refine ⟨j+1,ao2,cc2,by go_num,by omega,?_⟩;have h1:=HU2.out.put HA.out;rw [HT2.out,List.append_assoc,←List.replicate_succ'] at h1;rw [HT2.out];exact h1
      case measure=>simp [intOf];omega
     ·have hj':j=n:=by omega
      have HJ:=J hj';subst hj';have hjj:decide ((j:Int)<j)=false:=decide_eq_false (by omega);go_wp2;go_roundw;case rel=>
       refine ⟨k+1,ts2,bo2,cu2,by omega,by go_num,ht2l,?_,HU2.out⟩;have h1:=HUN.out;have h2:=HSX.out;rw [zJ hlt,←h2.1,←h2.2,if_neg HWN.out,HTV.out,HSP.out.1,←HN.out,←HT2.out] at h1;exact h1
      case measure=>simp [intOf];omega
  ·have hk':k=r.length:=by omega
   subst hk';have q1:=HU.out.cell;go_wp2;go_ret2
   refine ⟨HU.out.below,fun h=>?_,fun ts' h=>?_⟩
   ·have h1:=HUN.out
    rw [h,Qz] at h1;cases h1
   ·have h1:=HUN.out
    rw [h,Qz] at h1;cases h1;exact ⟨bo,cu,rfl,HU.out.is,jU HU.out.own⟩
end
end Go.Proofs.YtacpfpghokcdlaaGreatDoor.Z
