/- Part 11. -/
import Derived.LoopIn
import Derived.LoopNIn
import Derived.OwnWalkIn
import Derived.RangeFuncBound
import Derived.RangeFuncCalls
import Derived.RangeFuncLeaves
import Derived.RangeFuncNested
import Derived.Shelf.Abstract
import Derived.Shelf.RegionOpen
import Derived.TacticsInMore
import Derived.Test.YtacpfpghokcdlaaGreatDoorXB10
open Go.Proofs.Tryz
namespace Go.Proofs.YtacpfpghokcdlaaGreatDoor.Y
set_option maxRecDepth 100000
section
open Go.Lib renaming hid → J
open Go.RowKit
theorem zdT:AT 236 248 (.agg #[.int .i64 0,.bool false]) 2 16:=⟨by kernel_rfl,by kernel_rfl,rfl,by omega⟩
theorem jc {t e:Nat}{z:Value}{size bytes:Nat}(T:AT t e z size bytes){ops:Array Oper}{o:Oper}{a:Act}{w:World}{K:Act→World→Prop}{Q:Exit→Act→World→Prop}{E:Prop}
  (hg:o.guard=none) (s x:Operand) (hop:o.op=Op.call { callee:=Callee.builtin Builtin.append,args := #[s,x],argTypes := #[t,t] })
  (base:Nat) (v sv:Value) (n m:Nat) (xs ys:List Value) (hs:a.eval s=v) (hx:a.eval x=sv) (hown:w.ownsRow base e size v n xs) (hsrc:zI w sv m ys)
  (hyl:ys.length=m*size) (h1:∀ u∈ys,u.oneCell'=true) (hbase:base≤w.heap.size) (hl:n+m≤140737488355328) (hby:(n+m)*bytes≤140737488355328)
  (hK:∀ ao c w',Apg w base e size v (n+m) (xs++ys) (.slice ao (n+m) c) w'→K (a.put o.dst (.slice ao (n+m) c)) w') :
  if Region.wanted o (yielded ops a.tmps)=true then Oper.wp prog o a w K Q else E:=by
 have hw:Region.wanted o (yielded ops a.tmps)=true:=by simp [Region.wanted,hg]
 rw [if_pos hw];obtain ⟨v',w',hrun,hA⟩:=qY T w o.type hown hsrc hyl h1 hbase hl hby
 obtain ⟨ao,c,rfl⟩:=zr hA.own;unfold Oper.wp;simp [execOp,hop,resolve,invoke,builtin,hs,hx,hrun,Result.andThen];exact hK ao c w' hA
theorem uE {P:Program}{ops:Array Oper}{rest:List Oper}{o:Oper}{a:Act}{w:World}{Q:Exit→Act→World→Prop}(hgd:o.guard=none) (t:TypeId) (l c:Operand) (ho:o.op=.makeSlice t l c) (e:TypeId) (z:Value) (size bytes n:Nat) (hu:P.underlying t=some (.slice e))
  (hin:(P.info? e).map (fun i=>(i.zero,i.size,i.bytes))=some (some z,size,bytes)) (kl kc:IntKind) (C:Int) (hl:a.eval l=.int kl 0) (hc:a.eval c=.int kc C) (hC:C=n) (hb:bytes*n≤281474976710656) (hm:n≤maxLen)
  (h:∀ W,W.ownsRow w.heap.size e size (.slice (some ⟨w.heap.size,0,none⟩) 0 n) 0 []→Touch (fun _=>False) w W→W.heap.size=w.heap.size+1→wpList P ops Q rest (a.put o.dst (.slice (some ⟨w.heap.size,0,none⟩) 0 n)) W):wpList P ops Q (o::rest) a w:=by
 subst hC;obtain ⟨i,hi,hz0,hz1,hz2⟩:=info_parts hin;have h63:n≤9223372036854775807:=Nat.le_trans hm (by unfold maxLen;omega);have hr:=run_make (P:=P) w t e i z hu hi hz0 kl kc 0 n (by omega) (by omega) (by rw [hz2];omega) (by omega);rw [Int.toNat_natCast,hz1] at hr;refine wpList_plain hgd fun K hK=>?_
 unfold Oper.wp execOp;simp only [ho,hl,hc,Sem.run_bind,Sem.run_pure,hr,Result.andThen_ok];exact hK _ _ (h _ (World.ownsRow_made w _ n (Nat.le_refl _) hm (by simp [madeCells])) ((Touch.refl _ w).alloc _) (by simp))
theorem yl (w:World) (B:Nat) (hB:w.heap.size=B) (e:TypeId) (x:Nat × Bool):zI (w.alloc (.cells #[.int .i64 (x.1:Nat),.bool x.2] e)) (.slice (some ⟨B,0,none⟩) 1 1) 1 (cl [x]):=by
 subst hB;refine .inr ⟨_,1,rfl,fun j u hu=>?_⟩;rw [Addr.add_lit,Nat.zero_add,(Blk.made w e _).cell];have:j<2:=by
  have:=(List.getElem?_eq_some_iff.1 hu).1;simpa [cl] using this
 rcases (by omega:j=0∨j=1) with rfl | rfl
 ·simpa [cl] using hu
 ·simpa [cl] using hu
structure Mr (w:World) (P:List (Nat × Bool)) (v:Value) (wr:World):Prop where
 own:wr.ownsRow w.heap.size 248 2 v P.length (cl P)
 below:Below w.heap.size w wr
theorem Mr.put {w wr w1:World}{P R:List (Nat × Bool)}{v v':Value}{n:Nat}(h:Mr w P v wr) (hA:Apg wr w.heap.size 248 2 v n (cl P++cl R) v' w1) (hn:n=P.length+R.length):Mr w (P++R) v' w1:=by
 subst hn;refine ⟨?_,h.below.trans (hA.below h.own h.below.size)⟩;rw [List.length_append,←zle];exact hA.own
theorem Mr.alloc {w wr:World}{P:List (Nat × Bool)}{v:Value}(h:Mr w P v wr) (o:Obj):Mr w P v (wr.alloc o):=
 ⟨World.ownsRow.alloc h.own o,h.below.alloc h.below.size o⟩
theorem Mr.drewN {w wr:World}{P:List (Nat × Bool)}{v:Value}(h:Mr w P v wr) (q:Nat):Mr w P v (wr.drewN q):=⟨h.own,below_drewN h.below q⟩
def sg (l:List Nat):List (Nat × Bool):=l.map fun c=>(c,true)
def db (l:List Nat):List (Nat × Bool):=l.map fun c=>(c,false)
theorem JS (l:List Nat):(sg l).length=l.length:=by simp [sg]
theorem yA (l:List Nat):(db l).length=l.length:=by simp [db]
def zk0 (v:Value):Nat:=match v with | .slice _ l _=>l | _=>0
theorem zbe (a:Option Addr) (l c:Nat):zk0 (.slice a l c)=l:=rfl
theorem zbA:prog.elem 236=248:=by simp [Program.elem,underlying236]
theorem zl2:prog.underlying 236=some (.slice (prog.elem 236)):=by rw [zbA];exact underlying236
theorem zgz (W:World):(sizeOf 248).run prog W=.ok 2 W:=by
 obtain ⟨i0,hi,hz0,hz1,hz2⟩:=info_parts zdT.info;simp [sizeOf,typeInfo,hi,hz1]
def zfw (ao:Option Addr) (c a:Nat):Option Addr:=if c=a then ao else ao.map (·.add (a*2))
theorem zdX (ao:Option Addr) (len c:Nat) (hab:1≤len) (W:World) :
  (Instr.slice 236 (.slice ao len c) (some (.int .i64 1)) none none).run prog W=.ok (.slice (zfw ao c 1) (len-1) (c-1)) W:=by
 rw [run_slice_l W 236 ao len c zl2 .i64 _ (by omega) (by omega),zbA,zgz];rfl
theorem zc0 (ao:Option Addr) (len c b:Nat) (hbc:b≤c) (W:World) :
  (Instr.slice 236 (.slice ao len c) none (some (.int .i64 (b:Int))) none).run prog W=.ok (.slice ao b c) W:=by
 rw [run_slice_h W 236 ao len c zl2 .i64 _ (by omega) (by omega),zbA,zgz];cases ao <;> simp [Result.andThen,sliced,Addr.add]
theorem CS.tail {w:World}{ao:Option Addr}{x:Nat × Bool}{r:List (Nat × Bool)}(h:CS w ao (x::r)) (c:Nat) (hc:r.length+1≤c):CS w (zfw ao c 1) r:=by
 rcases h with h | ⟨b,off,rfl,hr⟩
 ·cases h
 ·by_cases e:r=[]
  ·exact .inl e
  ·refine .inr ⟨b,off+2,?_,fun j v hv=>?_⟩
   ·have:0<r.length:=List.length_pos_iff.2 e
    unfold zfw;rw [if_neg (by omega)];simp [Addr.add]
   ·have:=hr (j+2) v (by rw [uh,List.getElem?_cons_succ,List.getElem?_cons_succ];exact hv)
    rwa [show off+(j+2)=off+2+j by omega] at this
theorem Apg.undrew {a b:World}{base e sz n:Nat}{v1 v2:Value}{xs:List Value}(k:Apg a.drew base e sz v1 n xs v2 b):Apg a base e sz v1 n xs v2 b:=
 ⟨k.own,((Touch.refl _ a).drew).trans k.touch,k.row⟩
theorem zar {w w2 w3:World}{P R:List (Nat × Bool)}{v v':Value}{B n t:Nat}{cs:Array Value}{o:Obj}(H:Mr w P v w2) (HB:Blk w2 B t cs) (hne:v.ownBlock≠some B)
  (hA:Apg (w2.alloc o) w.heap.size 248 2 v n (cl P++cl R) v' w3) (hn:n=P.length+R.length):Mr w (P++R) v' w3∧Blk w3 B t cs∧v'.ownBlock≠some B:=by
 refine ⟨(H.alloc o).put hA hn,?_,fun e=>?_⟩
 ·exact (HB.touch ((Touch.refl (fun _=>False) w2).alloc o) (fun h=>h)).touch hA.touch hne
 ·rcases hA.row B e with h | h
  ·exact hne h
  ·have:=HB.lt
   simp at h;omega
theorem zeI {w:World}{base:Nat}{ao:Option Addr}{c n:Nat}{r:List (Nat × Bool)}(h:w.ownsRow base 248 2 (.slice ao n c) n (cl r)) (hn:r.length=n):CS w ao r:=by
 subst hn;rcases h.2 with ⟨e,h0⟩ | ⟨g,cap,cur,e,hbg,hh,hnc,hcm,hcs,htake⟩
 ·exact .inl (List.eq_nil_of_length_eq_zero h0)
 ·simp only [Value.slice.injEq] at e
  obtain ⟨rfl,_,rfl⟩:=e;refine .inr ⟨g,0,rfl,fun j v hv=>?_⟩;have hj:j<r.length*2:=by
   have:=(List.getElem?_eq_some_iff.1 hv).1;rwa [zaw] at this
  rw [Nat.zero_add,World.ownsRow.cellAt h j (by omega),hv]
theorem UE {w:World}{base e size n c:Nat}{ao:Option Addr}{xs:List Value}(h:w.ownsRow base e size (.slice ao n c) n xs):n≤c∧(ao=none→c=0):=by
 rcases h.2 with ⟨e,h0⟩ | ⟨g,cap,cur,e,hbg,hh,hnc,hcm,hcs,htake⟩
 ·simp only [Value.slice.injEq] at e
  exact ⟨by omega,fun _=>e.2.2⟩
 ·simp only [Value.slice.injEq] at e
  obtain ⟨rfl,_,rfl⟩:=e;exact ⟨hnc,fun h=>by cases h⟩
theorem CS.cells {w:World}{ao:Option Addr}{r:List (Nat × Bool)}{c:Nat}(h:CS w ao r) (hn:ao=none→c=0):zI w (.slice ao r.length c) r.length (cl r):=by
 rcases h with rfl | ⟨b,off,rfl,hc⟩
 ·cases ao with
  | none=>exact .inl ⟨by rw [hn rfl];rfl,rfl,rfl⟩
  | some ad=>exact .inr ⟨ad,c,rfl,fun j u hu=>by simp [cl] at hu⟩
 ·exact .inr ⟨_,c,rfl,fun j u hu=>by rw [Addr.add_lit];exact hc j u hu⟩
set_option maxHeartbeats 4000000 in
theorem zaq (ao bo:Option Addr) (c e:Nat) (cs ds:List Nat) (w:World) (h:CS w ao (sg cs)) (hd:CS w bo (db ds)) (hl:cs.length≤320) (hl2:ds.length≤320) (hde:ds.length≤e) (hbn:bo=none→e=0) :
  Calls prog 191 #[.slice ao cs.length c,.slice bo ds.length e] w (zcf (mrg cs ds) w):=by
 have HI:=J h;have HD:=J hd;clear h hd;obtain ⟨n,hn⟩:=exq (cs.length+ds.length);have HN:=J hn;have hn1:n≤640:=by omega
 have en:IntKind.i64.wrap ((cs.length:Int)+ds.length)=n:=by rw [IntKind.wrap_i64];omega
 clear hn;go_enter func191,ntmps191;go_wp2_with (refine uE rfl 236 _ (.tmp 12) rfl 248 (.agg #[.int .i64 0,.bool false]) 2 16 n (by kernel_rfl) (by kernel_rfl) .i64 .i64 n rfl rfl rfl (by omega) (by unfold maxLen;omega) ?_;intro W hb ht hs;have HS:=J hs;clear hs);clear en;have H0:Hid (Mr w [] (.slice (some ⟨w.heap.size,0,none⟩) 0 n) W):=J ⟨hb,ht.none_below⟩;clear hb ht;go_loopw [1,5,16] (fun s1 s5 s16 wr=>∃ (k:Nat) (rest:List Nat) (P:List (Nat × Bool)) (a1 a5:Option Addr) (c1 c5:Nat),s1=.slice a1 rest.length c1∧s5=.slice a5 P.length c5∧s16=.int .i64 k∧k≤cs.length∧rest.length≤ds.length∧rest.length≤c1∧(a1=none→c1=0)∧CS w a1 (db rest)∧Mr w P (.slice a5 P.length c5) wr∧P++mrg (cs.drop k) rest=mrg cs ds) (fun _ _ s16 _=>cs.length-(intOf s16).toNat)
 case atStart=>exact ⟨0,ds,[],bo,_,e,n,rfl,rfl,rfl,Nat.zero_le _,Nat.le_refl _,hde,hbn,HD.out,H0.out,by rw [List.nil_append,List.drop_zero]⟩
 case round=>
  obtain ⟨k,rest,P,a1,a5,c1,c5,rfl,rfl,rfl,hk,hr,hrc,hnn,hcs,hm,hq⟩:=hrel;have HC:=J hcs;have HM:=J hm;have HQ:=J hq;clear hcs hm hq H0;by_cases hlt:k<cs.length
  ·have hkk:(k:Int)<cs.length:=by omega
   obtain ⟨b1,o1,rfl,q1,q2⟩:=(HI.out.on HM.out.below).at (k:=k) (by rw [JS];exact hlt);obtain ⟨x,hx⟩:=exq (cs.getD k 0);have ex:cn' (sg cs) k=(x,true):=by rw [hx];simp [cn',sg,List.getD,hlt]
   rw [ex] at q1 q2;have HX:Hid (cs.drop k=x::cs.drop (k+1)):=J (by rw [List.drop_eq_getElem_cons hlt,hx];simp [List.getD,hlt]);clear ex hx;go_wp2;obtain ⟨B,hB⟩:=exq (wr.heap.size);have H1:Hid (Mr w P (.slice a5 P.length c5) (wr.alloc (.cells #[.int .i64 (x:Nat),.bool true] 248))∧Blk (wr.alloc (.cells #[.int .i64 (x:Nat),.bool true] 248)) B 248 #[.int .i64 (x:Nat),.bool true]∧(Value.slice a5 P.length c5).ownBlock≠some B):=J ⟨HM.out.alloc _,by rw [hB];exact Blk.made _ _ _,fun e=>by
    have:=(HM.out.own.lt B e).2;omega⟩
   rw [←hB];generalize wr.alloc (.cells #[.int .i64 (x:Nat),.bool true] 248)=w1 at H1 ⊢;clear HM hB q1 q2;go_loopw [1,5] (fun s1 s5 wr2=>∃ (rest:List Nat) (P:List (Nat × Bool)) (a1 a5:Option Addr) (c1 c5:Nat),s1=.slice a1 rest.length c1∧s5=.slice a5 P.length c5∧rest.length≤ds.length∧rest.length≤c1∧(a1=none→c1=0)∧CS w a1 (db rest)∧P++mrg (cs.drop k) rest=mrg cs ds∧Mr w P (.slice a5 P.length c5) wr2∧Blk wr2 B 248 #[.int .i64 (x:Nat),.bool true]∧(Value.slice a5 P.length c5).ownBlock≠some B) (fun s1 _ _=>zk0 s1)
   case atStart=>exact ⟨rest,P,a1,a5,c1,c5,rfl,rfl,hr,hrc,hnn,HC.out,HQ.out,H1.out⟩
   case round=>
    clear HC HQ H1 hr hrc hnn;obtain ⟨rest,P,a1,a5,c1,c5,rfl,rfl,hr,hrc,hnn,hcs,hq,hm,hbk,hne⟩:=hrel;have HC:=J hcs;have HQ:=J hq;have HM:=J hm;have HBK:=J hbk;have HNE:=J hne;have g1:=(hbk.cell 0).trans (show _=some (.int .i64 (x:Nat)) from rfl);have g2:=(hbk.cell 1).trans (show _=some (.bool true) from rfl);have hPl:P.length≤640:=by
     have:=congrArg List.length hq;rw [List.length_append,x8] at this;rw [x8] at this;have:=HN.out;omega
    clear hcs hq hm hbk hne;cases rest with
    | nil=>
     have hd0:decide ((0:Int)<((([]:List Nat).length:Nat):Int))=false:=by simp
     go_wp2;go_quiet (fail)
     have HM2:=J (HM.out.drewN nq);have HBK2:=J (HBK.out.drewN nq);clear HM HBK g1 g2;generalize wr.drewN nq=w2 at HM2 HBK2 ⊢;have g1:=(HBK2.out.cell 0).trans (show _=some (.int .i64 (x:Nat)) from rfl);have g2:=(HBK2.out.cell 1).trans (show _=some (.bool true) from rfl);go_wp2_with (refine ze zdT rfl (.tmp 40) (.tmp 42) rfl w.heap.size (.slice a5 P.length c5) (.slice (some ⟨w2.heap.size,0,none⟩) 1 1) P.length 1 (cl P) (cl [(x,true)]) rfl rfl (World.ownsRow.alloc (w:=w2) HM2.out.own _) (yl w2 _ rfl 248 (x,true)) rfl (QZ _) (by simp;have:=HM2.out.below.size;omega) (by omega) (by omega) ?_;intro ao2 cc2 w3 hA;have H3:=J (zar HM2.out HBK2.out HNE.out hA rfl);clear hA);go_roundw;case rel=>
      refine ⟨k+1,[],P++[(x,true)],a1,ao2,c1,cc2,rfl,by rw [List.length_append];rfl,by go_num,by omega,hr,hrc,hnn,HC.out,by rw [List.length_append];exact H3.out.1,?_⟩;have:=HQ.out;rw [HX.out,xc,List.map_cons,←xc] at this;rw [←this,List.append_assoc];rfl
     case measure=>simp [intOf];omega
    | cons d rest=>
     obtain ⟨b2,o2,rfl,q3,q4⟩:=(HC.out.on HM.out.below).at (k:=0) (by rw [yA,List.length_cons];omega);rw [show cn' (db (d::rest)) 0=(d,false) from rfl,Nat.zero_mul,Nat.add_zero] at q3 q4;rw [List.length_cons] at hr hrc ⊢;obtain ⟨rl,hrl⟩:=exq (rest.length);have HRL:=J hrl;rw [←hrl] at hr hrc ⊢;clear hrl;have hpos:((0:Int)<((rl+1:Nat):Int)):=by omega
     by_cases hdx:d<x
     ·have hdx':(d:Int)<x:=by omega
      go_wp2;go_quiet (fail)
      have HM2:=J (HM.out.drewN nq);have HBK2:=J (HBK.out.drewN nq);clear HM HBK g1 g2 q3 q4;generalize wr.drewN nq=w2 at HM2 HBK2 ⊢;obtain ⟨b3,o3,e3,q3,q4⟩:=(HC.out.on HM2.out.below).at (k:=0) (by rw [yA,List.length_cons];omega);obtain ⟨rfl,rfl⟩:b2=b3∧o2=o3:=by simpa using e3
      rw [show cn' (db (d::rest)) 0=(d,false) from rfl,Nat.zero_mul,Nat.add_zero] at q3 q4;clear e3;have hsl:=zdX (some ⟨b2,o2,none⟩) (rl+1) c1 (by omega);rw [Nat.add_sub_cancel] at hsl;obtain ⟨A,hA0⟩:=exq (zfw (some ⟨b2,o2,none⟩) c1 1);have HA:=J hA0;rw [←hA0] at hsl;clear hA0;go_wp2;go_region_law (refine jc zdT rfl (.tmp 32) (.tmp 36) rfl w.heap.size (.slice a5 P.length c5) (.slice (some ⟨w2.heap.size,0,none⟩) 1 1) P.length 1 (cl P) (cl [(d,false)]) (by simp [Act.eval]) (by simp [Act.eval]) (World.ownsRow.alloc (w:=w2) HM2.out.own _) (yl w2 _ rfl 248 (d,false)) rfl (QZ _) (by simp;have:=HM2.out.below.size;omega) (by omega) (by omega) ?_;intro ao2 cc2 w3 hA)
      have H3:=J (zar HM2.out HBK2.out HNE.out hA.undrew rfl);go_simp
      clear hA HM2 HBK2 q3 q4;go_wp2_with fail
      go_roundw;case rel=>
       refine ⟨rest,P++[(d,false)],A,ao2,c1-1,cc2,by rw [HRL.out],by rw [List.length_append];rfl,by rw [←HRL.out];omega,by rw [←HRL.out];omega,?_,?_,?_,by rw [List.length_append];exact H3.out⟩
       ·rw [HA.out];unfold zfw;intro h0;split at h0 <;> simp at h0
       ·rw [HA.out];exact HC.out.tail c1 (by rw [List.length_map,←HRL.out];omega)
       ·have:=HQ.out
        rw [HX.out,kr _ _ hdx,←HX.out] at this;rw [←this,List.append_assoc];rfl
      case measure=>simp [zbe]
     ·have hdx':(x:Int)≤d:=by omega
      go_wp2;go_quiet (fail)
      have HM2:=J (HM.out.drewN nq);have HBK2:=J (HBK.out.drewN nq);clear HM HBK g1 g2 q3 q4;generalize wr.drewN nq=w2 at HM2 HBK2 ⊢;have g1:=(HBK2.out.cell 0).trans (show _=some (.int .i64 (x:Nat)) from rfl);have g2:=(HBK2.out.cell 1).trans (show _=some (.bool true) from rfl);go_wp2_with (refine ze zdT rfl (.tmp 40) (.tmp 42) rfl w.heap.size (.slice a5 P.length c5) (.slice (some ⟨w2.heap.size,0,none⟩) 1 1) P.length 1 (cl P) (cl [(x,true)]) rfl rfl (World.ownsRow.alloc (w:=w2) HM2.out.own _) (yl w2 _ rfl 248 (x,true)) rfl (QZ _) (by simp;have:=HM2.out.below.size;omega) (by omega) (by omega) ?_;intro ao2 cc2 w3 hA;have H3:=J (zar HM2.out HBK2.out HNE.out hA rfl);clear hA);go_roundw;case rel=>
       refine ⟨k+1,d::rest,P++[(x,true)],some ⟨b2,o2,none⟩,ao2,c1,cc2,by rw [List.length_cons,HRL.out],by rw [List.length_append];rfl,by go_num,by omega,by rw [List.length_cons,←HRL.out];omega,by rw [List.length_cons,←HRL.out];omega,(fun h0=>by cases h0),HC.out,by rw [List.length_append];exact H3.out.1,?_⟩;have:=HQ.out;rw [HX.out,jg _ _ hdx] at this;rw [←this,List.append_assoc];rfl
      case measure=>simp [intOf];omega
  ·have hk':k=cs.length:=by omega
   subst hk';have HSR:=J ((HC.out.on HM.out.below).cells hnn);rw [yA] at HSR;have hPl:P.length+rest.length≤1280:=by
    have:=congrArg List.length HQ.out;rw [List.length_append,x8,x8] at this;have:=HN.out;omega
   go_wp2_with (refine ze zdT rfl (.tmp 45) (.tmp 46) rfl w.heap.size (.slice a5 P.length c5) (.slice a1 rest.length c1) P.length rest.length (cl P) (cl (db rest)) rfl rfl HM.out.own HSR.out (by rw [zaw,yA]) (QZ _) HM.out.below.size (by omega) (by omega) ?_;intro ao2 cc2 w3 hA;have H3:=J (HM.out.put (R:=db rest) hA (by rw [yA]));clear hA);go_ret;have hq2:=HQ.out;rw [List.drop_length,mrg] at hq2;have hown:=H3.out.own;rw [List.length_append,yA] at hown;have hrm:=UE hown;refine ⟨ao2,cc2,?_,?_,H3.out.below,?_,hrm.2,fun b off e=>(hown.lt b (by rw [e];rfl)).1⟩
   ·rw [←hq2,List.length_append,List.length_map];rfl
   ·rw [←hq2]
    exact zeI hown (by rw [List.length_append,List.length_map])
   ·rw [←hq2,List.length_append,List.length_map];exact hrm.1
end
section
open Go.Lib renaming hid → J
open Go.RowKit Go.Shelf
attribute [local go_sem] Oper.semAt_some
def two {α : Type}:List α → List (α × α)
 | a::b::t=>(a,b)::two t
 | _=>[]
theorem ud {α : Type}:∀ l:List α,(two l).length=l.length/2
 | []=>by simp [two]
 | [_]=>by simp [two]
 | a::b::t=>by simp [two,ud t];omega
theorem zgq:∀ (r:List (Nat × Bool)) (k:Nat),2*k+1<r.length→(two r)[k]? = some (cn' r (2*k),cn' r (2*k+1))
 | [],k,h=>by simp at h
 | [_],k,h=>by simp at h
 | a::b::t,0,_=>rfl
 | a::b::t,k+1,h=>by
  rw [two,List.getElem?_cons_succ,zgq t k (by simp at h;omega),show 2*(k+1)=2*k+1+1 by omega];rfl
theorem KT:∀ r:List (Nat × Bool),(two r).map (fun p=>p.1.1+p.2.1)=qI (cost r)
 | []=>rfl
 | [_]=>rfl
 | a::b::t=>by simp only [two,List.map_cons,KT t];rfl
def cv (x:Nat × Bool):Value:=.agg #[.int .i64 (x.1:Nat),.bool x.2]
def encs (x:(Nat × Bool) × (Nat × Bool)):Array Value := #[cv x.1,cv x.2]
abbrev FW:Fence:=Fence.wide
structure Beb (S:Nat→Prop) (n:Nat) (w w':World):Prop where
 os:w'.os=w.os
 tape:w'.tape=w.tape
 output:w'.output=w.output
 size:w.heap.size≤w'.heap.size
 block:∀ k,k<n→¬S k→w'.heap[k]? = w.heap[k]?
theorem Beb.refl (S:Nat→Prop) (n:Nat) (w:World):Beb S n w w:=⟨rfl,rfl,rfl,Nat.le_refl _,fun _ _ _=>rfl⟩
theorem Beb.trans {S:Nat→Prop}{n:Nat}{a b c:World}(h:Beb S n a b) (k:Beb S n b c):Beb S n a c:=
 ⟨k.os.trans h.os,k.tape.trans h.tape,k.output.trans h.output,Nat.le_trans h.size k.size,fun i hi hs=>(k.block i hi hs).trans (h.block i hi hs)⟩
theorem Beb.drew {S:Nat→Prop}{n:Nat}{a b:World}(h:Beb S n a b):Beb S n a b.drew:=⟨h.os,h.tape,h.output,h.size,h.block⟩
theorem Beb.cell {S:Nat→Prop}{n:Nat}{a b:World}(h:Beb S n a b){p:Addr}(hp:p.block<n) (hs:¬S p.block):b.cell? p=a.cell? p:=World.cell?_of_block (h.block _ hp hs)
theorem Beb.of_below {S:Nat→Prop}{n m:Nat}{a b:World}(h:Below m a b) (hn:n≤m):Beb S n a b:=⟨h.os,h.tape,h.output,h.size,fun k hk _=>h.block k (by omega)⟩
theorem zjJ {S:Nat→Prop}{n:Nat}{w:World}(hn:n≤w.heap.size) (W:World) (l:Nat) (o o':Obj) (hl:w.heap.size≤l) (_:W.heap[l]? = some o) (_:o.isCells=false) (_:o.isWalk=false):Beb S n W (W.putObj l o'):=
 ⟨rfl,rfl,rfl,by simp,fun k hk _=>World.putObj_heap_other (by omega)⟩
theorem CS.low {S:Nat→Prop}{w w':World}{ao:Option Addr}{r:List (Nat × Bool)}{B:Nat}(h:CS w ao r) (hb:Beb S B w w') (hl:∀ b off,ao=some ⟨b,off,none⟩→r≠[]→b<B∧¬S b):CS w' ao r:=by
 rcases h with h | ⟨b,off,rfl,hc⟩
 ·exact .inl h
 ·by_cases e:r=[]
  ·exact .inl e
  ·exact .inr ⟨b,off,rfl,fun j v hv=>(hb.cell (p:=⟨b,off+j,none⟩) (hl b off rfl e).1 (hl b off rfl e).2).trans (hc j v hv)⟩
set_option maxRecDepth 100000 in
set_option maxHeartbeats 4000000 in
theorem zkY (S:Nat→Prop) (n l B n₀ : Nat) (hn:1≤n) (ao:Option Addr) (c:Nat) (r:List (Nat × Bool)) (hr:r.length≤640) (Jj Jx:List ((Nat × Bool) × (Nat × Bool))→World→Prop) (hJd:∀ pre W,Jj pre W→Jj pre W.drew)
  (hY:∀ pre x W,Jj pre W→pre.length<(two r).length→YieldAt FW (n-1) prog l (encs x) W fun e W'=>
   (e=.returned (.bool true)∧Jj (pre++[x]) W'∧Beb S n₀ W W')∨(e=.returned (.bool false)∧Jx (pre++[x]) W'))
  (W:World) (hB:W.cell? ⟨B,0,none⟩=some (.slice ao r.length c)) (hBl:B<n₀) (hBs:¬S B) (hC:CS W ao r) (hCl:∀ b off,ao=some ⟨b,off,none⟩→r≠[]→b<n₀ ∧ ¬S b) (h0:Jj [] W) :
  CallsIn FW n prog 196 #[.func (.yield l) #[] #[],.pointer (some ⟨B,0,none⟩)] W fun e W'=>(∃ v,e=.returned v)∧
   ((∃ ys,ys=two r∧Jj ys W')∨(∃ pre,pre <+: two r∧Jx pre W')):=by
 have HC:=J hC;have HCl:=J hCl;have HB:=J hB;clear hC hCl hB;refine callsIn_of_wp func196 rfl trivial ?_ rfl;simp only [ntmps196,List.size_toArray,List.length_cons,List.length_nil,Nat.reduceAdd,Nat.reduceSub,Array.replicate_succ,Array.replicate_zero,List.push_toArray,List.append_toArray,List.nil_append,List.cons_append];gi_wp2
 gi_loopw [3] (fun v wr=>∃ t i:Nat,v=.int .i64 i∧i=2*t+1∧2*t≤r.length∧Jj ((two r).take t) wr∧Beb S n₀ W wr) (fun i _=>r.length+2-(intOf i).toNat)
 case atStart=>exact ⟨0,1,rfl,rfl,Nat.zero_le _,h0,Beb.refl _ _ _⟩
 case round=>
  obtain ⟨t,i,rfl,hi,ht,hJ,hb⟩:=hrel;have hbox:=(hb.cell (p:=⟨B,0,none⟩) hBl hBs).trans HB.out;by_cases hlt:i<r.length
  ·have hlt':(i:Int)<r.length:=by omega
   have hCS:=HC.out.low hb HCl.out;obtain ⟨b1,o1,rfl,q1,q2⟩:=hCS.at (k:=2*t) (by omega);obtain ⟨b2,o2,e2,q3,q4⟩:=hCS.at (k:=2*t+1) (by omega);obtain ⟨rfl,rfl⟩:b1=b2∧o1=o2:=by simpa using e2
   clear e2;obtain ⟨x,hx⟩:=exq (cn' r (2*t));obtain ⟨y,hy⟩:=exq (cn' r (2*t+1));rw [←hx] at q1 q2;rw [←hy] at q3 q4;obtain ⟨x1,x2⟩:=x;obtain ⟨y1,y2⟩:=y;have HXY:=J (And.intro hx hy);obtain ⟨j,hj⟩:=exq (2*t);rw [←hi] at q3 q4;rw [←hj] at q1 q2;have ej:IntKind.i64.wrap ((i:Int)-1)=j:=by rw [IntKind.wrap_i64];omega
   have hjl:(j:Int)<r.length:=by omega
   have htl:((two r).take t).length<(two r).length:=by rw [List.length_take,ud];omega
   obtain ⟨fn,tmps,assign,body,hy',hR⟩:=hY _ ((x1,x2),(y1,y2)) wr.drew (hJd _ _ hJ) htl;simp only [encs,cv] at hy';have HIJ:=J (And.intro hi hj);clear hx hy hi hj;have hmix:prog.follows .mixedOrders=true:=by kernel_rfl
   gi_wp2
   have hR2:RoundIn FW (n-1) prog l fn tmps assign body wr.drew fun e W'=>∃ bv,e=.returned (.bool bv)∧((bv=true∧Jj ((two r).take t++[((x1,x2),(y1,y2))]) W'∧Beb S n₀ wr.drew W')∨(bv=false∧Jx ((two r).take t++[((x1,x2),(y1,y2))]) W')):=
    hR.mono fun e W' h=>by
     rcases h with ⟨rfl,h⟩ | ⟨rfl,h⟩
     ·exact ⟨true,rfl,.inl ⟨rfl,h⟩⟩
     ·exact ⟨false,rfl,.inr ⟨rfl,h⟩⟩
   clear hR;gi_region_with_o (refine hR2.mono ?_;rintro e W3 ⟨bv,rfl,hor⟩)
   all_goals
    have hx3:=HXY.out;have ht3:=HIJ.out;have hts:(two r).take t++[((x1,x2),(y1,y2))]=(two r).take (t+1):=by
     rw [List.take_add_one,zgq r t (by omega),←hx3.1,←hx3.2];rfl
    rw [hts] at hor;have hlen2:t+1≤(two r).length:=by rw [ud];omega
    go_simp
    rcases hor with ⟨rfl,hJ3,hk3⟩ | ⟨rfl,hJx3⟩
    ·gi_wp2
     go_roundw;case rel=>exact ⟨t+1,i+2,by go_num,by omega,by omega,hJ3,hb.drew.trans hk3⟩
     case measure=>simp [intOf];omega
    ·gi_wp2
     refine bodyPost_ret (results_none rfl _ _ _) rfl ?_;exact ⟨⟨_,rfl⟩,.inr ⟨_,List.take_prefix _ _,hJx3⟩⟩
  ·have hlt':(r.length:Int)≤i:=by omega
   gi_wp2
   go_end0;refine ⟨⟨_,rfl⟩,.inl ⟨_,?_,hJ⟩⟩;rw [List.take_of_length_le];rw [ud];omega
theorem za7 (W:World):W.grownBy W.drew none:=⟨rfl,rfl,rfl,Nat.le_refl _,fun _ _ _=>rfl⟩
theorem zdz (S:Nat→Prop) (n:Nat) (hn:1≤n) (B:Nat) (ao:Option Addr) (c:Nat) (r:List (Nat × Bool)) (hr:r.length≤640) (w:World) (hB:w.cell? ⟨B,0,none⟩=some (.slice ao r.length c)) (hBs:¬S B) (hC:CS w ao r)
  (hCs:∀ b off,ao=some ⟨b,off,none⟩→r≠[]→¬S b) :
  SeqStopsK FW n prog 196 #[.pointer (some ⟨B,0,none⟩)] encs (Beb S w.heap.size) (fun ys=>ys=two r) (fun pre=>pre <+: two r) (two r).length w:=fun l Jj Jx W hW hJ _ hY h0=>
 zkY S n l B w.heap.size hn ao c r hr Jj Jx (fun pre W hJW=>hJ pre W W.drew none hJW (za7 W) (fun _ e=>by cases e)) hY W ((hW.cell (p:=⟨B,0,none⟩) (World.block_lt_of_cell? w _ hB)).trans hB) (World.block_lt_of_cell? w _ hB) hBs (hC.on hW)
  (fun b off e hne=>⟨by
   rcases hC with h | ⟨b',off',rfl,hc⟩
   ·exact absurd h hne
   ·have e':=Option.some.inj e
    simp only [Addr.mk.injEq] at e';rw [←e'.1];have:=Kx r 0 (List.length_pos_iff.2 hne);exact World.block_lt_of_cell? w _ (hc _ _ this.1),hCs b off e hne⟩) h0
theorem zdQ (ao:Option Addr) (l c:Nat) (w:World) :
  Calls prog 190 #[.slice ao l c] w fun e w'=>e=.returned (.func (.func 196) #[] #[.pointer (some ⟨w.heap.size,0,none⟩)])∧w'=w.alloc (.cells #[.slice ao l c] 236):=by
 go_enter func190,ntmps190;go_wp2;go_ret;exact ⟨rfl,rfl⟩
end
section
open Go.RowKit Go.Shelf
def zj4 {α : Type}(n gf:Nat) (lb:Array Value) (encs : α → Array Value) (Kp:World→World→Prop) (xs:List α) (w:World):Prop:=
 ∀ (l:Nat) (Jj:List α → World→Prop) (W:World),Below w.heap.size w W→
  (∀ pre x W1,Jj pre W1→xs[pre.length]? = some x→YieldAt FW (n-1) prog l (encs x) W1 fun e W'=>e=.returned (.bool true)∧Jj (pre++[x]) W'∧Kp W1 W')→
  Jj [] W→CallsIn FW n prog gf (#[.func (.yield l) #[] #[]]++lb) W fun e W'=>(∃ v,e=.returned v)∧Jj xs W'
theorem zeE {α : Type}{g:Operand}{ps:Array Tmp}{assign body:Code}{Q:Exit→Act→World→Prop}{a:Act}{w:World}{n gf:Nat}{lb:Array Value}{encs : α → Array Value}{Kp:World→World→Prop}{xs:List α}
  (h1:1≤n) (hg:a.eval g=.func (.func gf) #[] lb) (eg:∀ args w,(callFunc gf args).run prog w=.ok (.enter gf args) w) (hseq:zj4 (n-1) gf lb encs Kp xs w)
  (hKt:∀ {A B C:World},Kp A B→Kp B C→Kp A C) (hKb:∀ (W:World) (l:Nat) (o o':Obj),w.heap.size≤l→W.heap[l]? = some o→o.isCells=false→o.isWalk=false→Kp W (W.putObj l o')) (hps:∀ x,(encs x).size=ps.size)
  (I:List α → World→Prop) (hI:OwnFrom w.heap.size I) (h0:I [] w) (a₁ : α → Act)
  (hassign:∀ (l:Nat) (x : α) (W:World) (K:Act→World→Prop),K (a₁ x) W→assign.wpIn (FW.inRound l) (n-1-1) prog (Exit.then K (fun _ _ _=>False)) { tmps:=(ps.zip (encs x)).foldl (fun t (p,v)=>t.setIfInBounds p v) a.tmps,defers:=[] } W)
  (hbody:∀ (l:Nat) (pre:List α) (x : α) (W:World),I pre W→xs[pre.length]? = some x→body.wpIn (FW.inRound l) (n-1-1) prog (fun e _ W'=>e=.normal∧KeepsFrom w.heap.size W W'∧Kp W W'∧I (pre++[x]) W') (a₁ x) W)
  (hdone:∀ (D:Nat) (W:World),w.heap.size≤D→I xs W→W.heap[D]? = some (.deferred (some []))→Q .normal { a with defers:={ target:=.collected D,args := #[] }::a.defers } W) :
  (Code.rangeFunc g ps assign body).wpIn FW n prog Q a w:=by
 refine wpIn_rangeFunc fun fn hfn=>?_
 obtain ⟨D,hD⟩:=exq (w.heap.size);obtain ⟨rc,hrc⟩:=exq (fun st pe=>{ state:=st,pending:=pe,fn,tmps:=a.tmps,params:=ps,assign,body,defers:=D }:LoopState→Option Code→Loop)
 obtain ⟨V,hV⟩:=exq ((w.alloc (.deferred (some []))).alloc (.loop (rc .ready none)));have vl:V.heap[D+1]? = some (.loop (rc .ready none)):=by
  have:=World.alloc_heap_new (w.alloc (.deferred (some []))) (.loop (rc .ready none));rw [World.size_alloc,←hD] at this;rw [hV];exact this
 have vk:V.heap[D]? = some (.deferred (some [])):=by
  rw [hV,hD];exact (Below.heap_alloc _ _ _ (by simp)).trans (World.alloc_heap_new w _)
 have vi:I [] V:=by rw [hV];exact hI.alloc _ (hI.alloc _ h0)
 have vb:Below w.heap.size w V:=by rw [hV];exact ((Below.refl _ w).alloc (Nat.le_refl _) _).alloc (by simp) _
 refine ⟨D+1,[{ target:=.collected D,args := #[] }],V,{ target:=.fn (.func gf) lb,args := #[.func (.yield (D+1)) #[] #[]] },V,gf,#[.func (.yield (D+1)) #[] #[]]++lb,V,?_,?_,?_,?_,fun _=>h1,?_⟩
 ·rw [hV,hrc,hD];exact run_enterLoop_outer _ _ _ _ _
 ·simp only [resolve,hg];simp [go_sem]
 ·intro f' _;trivial
 ·simp [invoke,go_sem,eg]
 refine (hseq (D+1) (fun pre W=>I pre W∧W.heap[D+1]? = some (.loop (rc .ready none))∧W.heap[D]? = some (.deferred (some []))) V vb ?_ ⟨vi,vl,vk⟩).mono ?_
 ·
  rintro pre x W ⟨hi,hl,hk⟩ hx;have hlt:D+1<W.heap.size:=(Array.getElem?_eq_some_iff.1 hl).1;have hy:=run_yield (P:=prog) (args:=encs x) hl (by rw [hrc];exact hps x);rw [hrc] at hy;obtain ⟨B,hB⟩:=exq (W.putObj (D+1) (.loop { rc .ready none with state:=.busy }));have bl:B.heap[D+1]? = some (.loop { rc .ready none with state:=.busy }):=by rw [hB];exact World.putObj_heap_same hlt
  have bk:B.heap[D]? = some (.deferred (some [])):=by rw [hB];exact (World.putObj_heap_other (by omega)).trans hk
  have bw:Kp W B:=by rw [hB];exact hKb _ _ _ _ (by omega) hl rfl rfl
  have bi:I pre B:=by rw [hB];exact hI.putObj _ hi (by omega) hl rfl
  refine ⟨fn,_,assign,body,hy,roundIn_of_wpIn hfn (hassign _ x W _ ⟨_,run_beginRound hl (by rw [hrc]),?_⟩)⟩;rw [←hB];refine wpIn_mono (hbody _ pre x B bi hx) ?_;rintro e a3 W3 ⟨rfl,hkf,hkp,hi3⟩;have l3:=hkf.same _ _ (by omega) bl rfl;have hr:=run_endRound (P:=prog) none l3;refine ⟨_,_,hr,rfl,⟨hI.putObj _ hi3 (by omega) l3 rfl,?_,(World.putObj_heap_other (by omega)).trans (hkf.same _ _ (by omega) bk rfl)⟩,hKt (hKt bw hkp) (hKb _ _ _ _ (by omega) l3 rfl rfl)⟩;rw [World.putObj_heap_same (Array.getElem?_eq_some_iff.1 l3).1,hrc];rfl
 ·
  rintro e W2 ⟨⟨v,rfl⟩,hi,hl,hk⟩;have hr:=run_endLoop (P:=prog) hl (by rw [hrc];simp);rw [hrc] at hr;exact ⟨none,_,hr,hdone D _ (by omega) (hI.putObj _ hi (by omega) hl rfl) ((World.putObj_heap_other (by omega)).trans hk)⟩
end
section
open Go.Lib renaming hid → J
open Go.RowKit Go.Shelf
attribute [local go_sem] Oper.semAt_some
abbrev Sv:=Option Addr × Nat × Nat
def sv (x:Sv):Value:=.slice x.1 x.2.1 x.2.2
def zhJ (x:Nat × Sv):Array Value := #[.int .i64 (x.1:Nat),sv x.2]
def bk (k:Nat) (rs:Nat→Sv):List (Nat × Sv):=(List.range k).map fun p=>(k-1-p,rs (k-1-p))
theorem Qm (k:Nat) (rs:Nat→Sv):(bk k rs).length=k:=by simp [bk]
theorem zgr (k:Nat) (rs:Nat→Sv) (p:Nat) (h:p<k):(bk k rs)[p]? = some (k-1-p,rs (k-1-p)):=by simp [bk,h]
set_option maxRecDepth 100000 in
set_option maxHeartbeats 4000000 in
theorem ziO (S:Nat→Prop) (n l B n₀ : Nat) (hn:1≤n) (g c k:Nat) (rs:Nat→Sv) (hk:k≤15) (Jj:List (Nat × Sv)→World→Prop)
  (hY:∀ pre x W,Jj pre W→(bk k rs)[pre.length]? = some x→YieldAt FW (n-1) prog l (zhJ x) W fun e W'=>e=.returned (.bool true)∧Jj (pre++[x]) W'∧Beb S n₀ W W')
  (W:World) (hB:W.cell? ⟨B,0,none⟩=some (.slice (some ⟨g,0,none⟩) k c)) (hBl:B<n₀) (hBs:¬S B) (hC:∀ j,j<k→W.cell? ⟨g,j,none⟩=some (sv (rs j))) (hgl:g<n₀) (hgs:¬S g) (h0:Jj [] W) :
  CallsIn FW n prog 195 #[.func (.yield l) #[] #[],.pointer (some ⟨B,0,none⟩)] W fun e W'=>(∃ v,e=.returned v)∧Jj (bk k rs) W':=by
 have HC:=J hC;have HB:=J hB;have e0:IntKind.i64.wrap ((k:Int)-1)=(k:Int)-1:=by rw [IntKind.wrap_i64];omega
 clear hC;refine callsIn_of_wp func195 rfl trivial ?_ rfl;simp only [ntmps195,List.size_toArray,List.length_cons,List.length_nil,Nat.reduceAdd,Nat.reduceSub,Array.replicate_succ,Array.replicate_zero,List.push_toArray,List.append_toArray,List.nil_append,List.cons_append];gi_wp2
 clear e0 hB;gi_loopw [3] (fun v wr=>∃ (p:Nat) (z:Int),v=.int .i64 z∧p≤k∧z=(k:Int)-1-p∧Jj ((bk k rs).take p) wr∧Beb S n₀ W wr) (fun i _=>(intOf i+1).toNat)
 case atStart=>exact ⟨0,_,rfl,Nat.zero_le _,by simp,h0,Beb.refl _ _ _⟩
 case round=>
  obtain ⟨p,z,rfl,hp,hz,hJ,hb⟩:=hrel;have hbox:=(hb.cell (p:=⟨B,0,none⟩) hBl hBs).trans HB.out;by_cases hlt:p<k
  ·obtain ⟨q,hq⟩:=exq (k-1-p)
   have hzq:z=(q:Int):=by omega
   subst hzq;have hqk:(q:Int)<k:=by omega
   have hc:=(hb.cell (p:=⟨g,q,none⟩) hgl hgs).trans (HC.out q (by omega));obtain ⟨x,hx⟩:=exq (rs q);obtain ⟨x1,x2,x3⟩:=x;rw [←hx] at hc;have hc2:wr.cell? ⟨g,q,none⟩=some (.slice x1 x2 x3):=hc;have hat:(bk k rs)[((bk k rs).take p).length]? = some (q,(x1,x2,x3)):=by
    rw [List.length_take,Qm,Nat.min_eq_left hp,zgr k rs p hlt,←hq,←hx]
   obtain ⟨fn,tmps,assign,body,hy',hR⟩:=hY _ (q,(x1,x2,x3)) wr hJ hat;simp only [zhJ,sv] at hy';have HQ:=J (And.intro hq (And.intro hx hz));clear hc hx hz;have hq0:(0:Int)≤q:=by omega
   clear hq;gi_wp2
   refine hR.mono ?_;have hts:(bk k rs).take p++[(q,(x1,x2,x3))]=(bk k rs).take (p+1):=by
    rw [List.take_add_one,zgr k rs p hlt,←HQ.out.1,←HQ.out.2.1];rfl
   rintro e W3 ⟨rfl,hJ3,hk3⟩;gi_wp2
   go_roundw;case rel=>
    rw [hts] at hJ3;have hz2:=HQ.out.2.2;exact ⟨p+1,_,rfl,by omega,by first | omega | go_num | (rw [wrap64];omega),hJ3,hb.trans hk3⟩
   case measure=>first | (simp [intOf];done) | (simp [intOf];omega)
  ·have hzn:z = -1:=by omega
   subst hzn;gi_wp2
   go_end0;refine ⟨⟨_,rfl⟩,?_⟩;rwa [List.take_of_length_le (by rw [Qm];omega)] at hJ
theorem zbG (S:Nat→Prop) (n:Nat) (hn:1≤n) (B:Nat) (g c k:Nat) (rs:Nat→Sv) (hk:k≤15) (w:World) (hB:w.cell? ⟨B,0,none⟩=some (.slice (some ⟨g,0,none⟩) k c)) (hBs:¬S B)
  (hC:∀ j,j<k→w.cell? ⟨g,j,none⟩=some (sv (rs j))) (hg:g<w.heap.size) (hgs:¬S g) :
  zj4 n 195 #[.pointer (some ⟨B,0,none⟩)] zhJ (Beb S w.heap.size) (bk k rs) w:=fun l Jj W hW hY h0=>
 ziO S n l B w.heap.size hn g c k rs hk Jj hY W ((hW.cell (p:=⟨B,0,none⟩) (World.block_lt_of_cell? w _ hB)).trans hB) (World.block_lt_of_cell? w _ hB) hBs (fun j hj=>(hW.cell (p:=⟨g,j,none⟩) hg).trans (hC j hj)) hg hgs h0
theorem QM (ao:Option Addr) (l c:Nat) (w:World) :
  Calls prog 189 #[.slice ao l c] w fun e w'=>e=.returned (.func (.func 195) #[] #[.pointer (some ⟨w.heap.size,0,none⟩)])∧w'=w.alloc (.cells #[.slice ao l c] 234):=by
 go_enter func189,ntmps189;go_wp2;go_ret;exact ⟨rfl,rfl⟩
end
end Go.Proofs.YtacpfpghokcdlaaGreatDoor.Y
