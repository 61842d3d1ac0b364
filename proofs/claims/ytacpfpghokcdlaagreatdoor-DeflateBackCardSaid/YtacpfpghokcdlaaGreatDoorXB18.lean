/- Part 18. -/
import Derived.Deep.CutRange
import Derived.Deep.RegionWith
import Derived.Test.YtacpfpghokcdlaaGreatDoorXB17
open Go.Proofs.Tryz
namespace Go.Proofs.YtacpfpghokcdlaaGreatDoor.V
set_option maxRecDepth 100000
section
open Go.Lib renaming hid → J
open Go.RowKit Go.Maps
theorem JW {P:Program}{f:Nat}{args:Array Value}{w:World}{E:Ending}(h:∀ q,Calls P f args (w.drewN q) fun e w'=>e=E∧∃ m,w'=(w.drewN q).drewN m) :
  ∀ W,(∃ q,W=w.drewN q)→Calls P f args W fun e w'=>e=E∧∃ m,w'=w.drewN m:=fun W hW=>by
 obtain ⟨q,rfl⟩:=hW;refine (h q).mono ?_;rintro e w' ⟨rfl,m,rfl⟩;exact ⟨rfl,_,World.drewN_drewN _ _ _⟩
abbrev Kps (mb ab:Nat) (k:Nat):Prop:=k=ab∨k=mb
theorem Fin.touch {S:Nat→Prop}{w w':World}{B p mb ab pl wt:Nat}{bv:Value}{bs:List Nat}{cop:Bool}{n:Nat}(h:Fin w B p mb ab pl wt bv bs cop n) (ht:Touch S w w') (hp:¬S p) (hS:∀ k,S k→B≤k) :
  Blk w' p 138 #[.int .i64 (pl:Nat),.int .i64 (wt:Nat),bv,.map (some mb),.slice (some ⟨ab,0,none⟩) bs.length bs.length,.bool cop]∧zi w' bv bs:=
 ⟨h.blk.touch ht hp,zgh h.by_ h.far.1 ht hS⟩
theorem Fin.ringSet {w:World}{B p mb ab pl wt:Nat}{bv:Value}{bs:List Nat}{cop:Bool}{n:Nat}(h:Fin w B p mb ab pl wt bv bs cop n) (y:Int) :
  Fin (w.setCell ⟨ab,n,none⟩ (.int .i64 y)) B p mb ab pl wt bv bs cop n∧Touch (Kps mb ab) w (w.setCell ⟨ab,n,none⟩ (.int .i64 y))∧
   ∃ g:Nat→Int,Blk (w.setCell ⟨ab,n,none⟩ (.int .i64 y)) ab 3 (va bs.length fun i => .int .i64 (g i))∧(∀ q,q<n→g q=M.pv bs (M.zM bs q) q)∧g n=y:=by
 have ht:Touch (Kps mb ab) w (w.setCell ⟨ab,n,none⟩ (.int .i64 y)):=(Touch.refl _ w).setCell _ _ (.inl (.inl rfl));have hf:=h.far;obtain ⟨t1,t2⟩:=h.touch ht (by unfold Kps;omega) (fun k hk=>by unfold Kps at hk;omega);obtain ⟨g,hg,hv⟩:=h.ring;have hb:Blk (w.setCell ⟨ab,n,none⟩ (.int .i64 y)) ab 3 (va bs.length fun i => .int .i64 (if i=n then y else g i)):=by
  have:=hg.setCell n (.int .i64 y);rw [qF] at this;rwa [zq (F:=fun i=>if i=n then Value.int .i64 y else .int .i64 (g i)) (G:=fun i => .int .i64 (if i=n then y else g i)) fun i _=>by split <;> rfl] at this
 have hq:∀ q,q<n→(if q=n then y else g q)=M.pv bs (M.zM bs q) q:=fun q hq=>by rw [if_neg (by omega)];exact hv q hq
 refine ⟨⟨t1,t2,?_,⟨_,hb,hq⟩,hf,h.nums⟩,ht,_,hb,hq,if_pos rfl⟩;obtain ⟨D,⟨es,clock,hk,F,hs,hD⟩,hM⟩:=h.map;refine ⟨D,⟨es,clock,?_,F,hs,hD⟩,hM⟩;exact (((Touch.refl (fun k=>k=ab) w).setCell ⟨ab,n,none⟩ (.int .i64 y) (.inl rfl)).block mb (Array.getElem?_eq_some_iff.1 hk).1 (by show ¬mb=ab;omega)).trans hk
theorem Fin.mapSet {w:World}{B p mb ab pl wt:Nat}{bv:Value}{bs:List Nat}{cop:Bool}{n:Nat}(h:Fin w B p mb ab pl wt bv bs cop n) (hb:Bs bs) (hn:n≤30000) (hr:∃ g:Nat→Int,Blk w ab 3 (va bs.length fun i => .int .i64 (g i))∧∀ q,q<n+1→g q=M.pv bs (M.zM bs q) q) :
  ∃ w',(Instr.mapUpdate 136 (.map (some mb)) (.int .u32 (M.zM bs n:Nat)) (.int .i64 (n:Nat))).run prog w=.ok () w'∧Fin w' B p mb ab pl wt bv bs cop (n+1)∧Touch (Kps mb ab) w w':=by
 obtain ⟨D,hD,hM⟩:=h.map;obtain ⟨w',hrun,hown,hg⟩:=hD.update zjG underlying136 (by unfold maxLen;omega) (keyOf_int_mk underlying105 (wf_u32 (M.zbZ hb n))) (plainElem_int underlying3 (WalkArith.wf_i64 (n:=(n:Int)) ⟨by omega,by omega⟩));have ht:Touch (Kps mb ab) w w':=(Touch.refl _ w).grown hg fun k hk=>by cases hk;exact .inl (.inr rfl)
 have hf:=h.far;obtain ⟨t1,t2⟩:=h.touch ht (by unfold Kps;omega) (fun k hk=>by unfold Kps at hk;omega);obtain ⟨g,hg1,hv⟩:=hr;have hg2:Touch (fun k=>k=mb) w w':=(Touch.refl _ w).grown hg fun k hk=>by cases hk;exact .inl rfl
 exact ⟨w',hrun,⟨t1,t2,⟨_,hown,hM.step⟩,⟨g,hg1.touch hg2 (by show ¬ab=mb;omega),hv⟩,hf,h.nums⟩,ht⟩
set_option maxHeartbeats 3200000 in
theorem zg7 (p mb ab pl wt:Nat) (v:Value) (bs:List Nat) (cop:Bool) (B at_:Nat) (w:World) (h:Fin w B p mb ab pl wt v bs cop at_) (hb:Bs bs) (hl:bs.length≤30000) (ha:at_+3≤bs.length) :
  Calls prog 123 #[.pointer (some ⟨p,0,none⟩),.int .i64 at_] w fun e w'=>e=.returned (.tuple #[])∧Fin w' B p mb ab pl wt v bs cop (at_+1)∧Touch (Kps mb ab) w w':=by
 have hby:=h.by_;obtain ⟨ao,c,rfl⟩:=qp hby
 have HL:=J (JW fun q=>Jm p mb ab pl wt (.slice ao bs.length c) bs cop B at_ (w.drewN q) (fun _=>h.drewN q) (((h.drewN q).blk.cell 2).trans rfl) (h.drewN q).by_ hb hl (by omega))
 have hla:la bs at_=M.pv bs (M.zM bs at_) at_:=if_pos ha;have HR:=J fun q=>(h.drewN q).ringSet (la bs at_)
 have c2:=(h.blk.cell 2).trans (show _=some (Value.slice ao bs.length c) from rfl);have c3:=(h.blk.cell 3).trans (show _=some (Value.map (some mb)) from rfl);have c4:=(h.blk.cell 4).trans (show _=some (Value.slice (some ⟨ab,0,none⟩) bs.length bs.length) from rfl);obtain ⟨g,hg,hgv⟩:=h.ring;have r1:=(hg.cell at_).trans (zw _ _ at_ (by omega));have r2:=hg.free at_;have HT0:=J fun q=>(Touch.refl (Kps mb ab) w).drewN q
 obtain ⟨L,hL⟩:=exq (bs.length);obtain ⟨y,hy⟩:=exq (la bs at_);have HY:Hid (y=M.pv bs (M.zM bs at_) at_):=J (by rw [hy,hla]);obtain ⟨gx,hgx⟩:=exq (g at_);rw [←hgx] at r1;rw [←hy] at HL HR;rw [←hL] at c2 c4;have hl2:L≤30000:=by omega
 have ha2:at_+3≤L:=by omega
 have HB:=J hb;have HLL:=J hL;have d1:decide ((L:Int)<(at_:Int)+3)=false:=by simp;omega
 have d2:decide (L<at_+3)=false:=by simp;omega
 have e1:IntKind.i64.wrap ((at_:Int)-32768)=(at_:Int)-32768:=by rw [IntKind.wrap_i64];omega
 have d3:decide ((0:Int)≤(at_:Int)-32768)=false:=by simp;omega
 have d3':decide ((32768:Int)≤at_)=false:=by simp;omega
 have d3'':decide (32768≤at_)=false:=by simp;omega
 have m1:(at_:Int).tmod 32768=(at_:Int):=by rw [Int.tmod_eq_emod_of_nonneg (by omega)];omega
 have m2:(at_:Int)%32768=(at_:Int):=by omega
 have i1:(at_:Int)<L:=by omega
 clear h hby hb hl ha hla hg hgv hL hy hgx;go_enter func123,ntmps123;go_wp2;go_quiet (fail)
 go_wp2;go_region_with (first | (go_at_call 154;refine (HL.out _ ?_).mono ?_;exact ⟨_,rfl⟩;rintro e w2 ⟨rfl,m,rfl⟩) | fail)
 all_goals
  obtain ⟨F1,T1,g1,hg1,hv1,hn1⟩:=HR.out m;have T2:=(HT0.out m).trans T1;clear T1;generalize (w.drewN m).setCell ⟨ab,at_,none⟩ (.int .i64 y)=W1 at F1 T2 hg1 ⊢;have b3:=(F1.blk.cell 3).trans (show _=some (Value.map (some mb)) from rfl);have HT:=J (JW fun q=>Kz p mb ab pl wt (.slice ao bs.length c) bs cop at_ B at_ (W1.drewN q) (F1.drewN q) HB.out (by rw [←HLL.out];exact hl2) (by rw [←HLL.out];exact ha2))
  obtain ⟨X,hX⟩:=Classical.skolem.1 (fun q=>(F1.drewN q).mapSet HB.out (by omega) ⟨g1,hg1.drewN q,fun i hi=>by
   by_cases e:i<at_
   ·exact hv1 i e
   ·obtain rfl:i=at_:=by omega
    rw [hn1,HY.out]⟩)
  have hX1:=fun q=>(hX q).1
  have HX:=J fun q=>(hX q).2
  have HT2:=J T2;obtain ⟨K,hK⟩:=exq (M.zM bs at_);rw [←hK] at hX1 HT;clear c2 c3 c4 r1 r2 HL HR HT0 HY m1 m2 d1 d2 d3 d3' d3'' e1 hX hK F1 hg1 hv1 hn1 T2;go_wp2;go_region_with (first | (go_at_call 158;refine (HT.out _ ?_).mono ?_;exact ⟨_,rfl⟩;rintro e w2 ⟨rfl,m2,rfl⟩) | fail)
  all_goals
   go_wp2;refine bodyPost_end (results_none rfl _ _ _) rfl ?_;exact ⟨rfl,(HX.out _).1,((HT2.out).drewN _).trans (HX.out _).2⟩
theorem zjd (p:Nat) (ao:Option Addr) (L c at_:Nat) (w:World) (c2:w.cell? ⟨p,2,none⟩=some (Value.slice ao L c)) (_hl:L≤30000) (ha:at_≤40000) (h3:L<at_+3) :
  Calls prog 123 #[.pointer (some ⟨p,0,none⟩),.int .i64 at_] w fun e w'=>e=.returned (.tuple #[])∧w'=w:=by
 have d1:(L:Int)<(at_:Int)+3:=by omega
 have d2:L<at_+3:=by omega
 go_enter func123,ntmps123;go_wp2;refine bodyPost_ret (results_none rfl _ _ _) rfl ?_;exact ⟨rfl,rfl⟩
def kp (bs:List Nat) (at_:Nat):Nat:=min at_ (bs.length-2)
theorem zaj (p mb ab pl wt:Nat) (v:Value) (bs:List Nat) (cop:Bool) (B at_:Nat) (w:World) (h:Fin w B p mb ab pl wt v bs cop (kp bs at_)) (hb:Bs bs) (hl:bs.length≤30000) (ha:at_<bs.length) :
  Calls prog 123 #[.pointer (some ⟨p,0,none⟩),.int .i64 at_] w fun e w'=>e=.returned (.tuple #[])∧Fin w' B p mb ab pl wt v bs cop (kp bs (at_+1))∧Touch (Kps mb ab) w w':=by
 by_cases h3:at_+3≤bs.length
 ·rw [show kp bs at_=at_ by unfold kp;omega] at h
  rw [show kp bs (at_+1)=at_+1 by unfold kp;omega];exact zg7 p mb ab pl wt v bs cop B at_ w h hb hl h3
 ·have hk:kp bs (at_+1)=kp bs at_:=by unfold kp;omega
  rw [hk];have hby:=h.by_;obtain ⟨ao,c,rfl⟩:=qp hby
  refine (zjd p ao bs.length c at_ w ((h.blk.cell 2).trans rfl) hl (by omega) (by omega)).mono ?_;rintro e w' ⟨rfl,rfl⟩;exact ⟨rfl,h,Touch.refl _ _⟩
end
section
open Go.RowKit
theorem Ul (w:World) (o:Obj):(w.alloc o).heap.size=w.heap.size+1:=Array.size_push _
theorem jc {t e:Nat}{z:Value}{size bytes:Nat}(T:AT t e z size bytes){ops:Array Oper}{o:Oper}{a:Act}{w:World}{K:Act→World→Prop}{Q:Exit→Act→World→Prop}{E:Prop}
  (hg:o.guard=none) (s x:Operand) (hop:o.op=Op.call { callee:=Callee.builtin Builtin.append,args := #[s,x],argTypes := #[t,t] })
  (base:Nat) (v sv:Value) (n m:Nat) (xs ys:List Value) (hs:a.eval s=v) (hx:a.eval x=sv) (hown:w.ownsRow base e size v n xs) (hsrc:zI w sv m ys)
  (hyl:ys.length=m*size) (h1:∀ u∈ys,u.oneCell'=true) (hbase:base≤w.heap.size) (hl:n+m≤140737488355328) (hby:(n+m)*bytes≤140737488355328)
  (hK:∀ ao c w',Apg w base e size v (n+m) (xs++ys) (.slice ao (n+m) c) w'→K (a.put o.dst (.slice ao (n+m) c)) w') :
  if Region.wanted o (yielded ops a.tmps)=true then Oper.wp prog o a w K Q else E:=by
 have hw:Region.wanted o (yielded ops a.tmps)=true:=by simp [Region.wanted,hg]
 rw [if_pos hw];obtain ⟨v',w',hrun,hA⟩:=qY T w o.type hown hsrc hyl h1 hbase hl hby
 obtain ⟨ao,c,rfl⟩:=zr hA.own;unfold Oper.wp;simp [execOp,hop,resolve,invoke,builtin,hs,hx,hrun,Result.andThen];exact hK ao c w' hA
theorem Qk {w w1 w2:World}(h:Below w.heap.size w w1) (k:Below w1.heap.size w1 w2):Below w.heap.size w w2:=h.trans ((Touch.of_below k:Touch (fun _=>False) w1 w2).below h.size fun _ e=>e.elim)
end
section
open Go.Lib renaming hid → J
open Go.RowKit Go.Maps
theorem zjE {bs:List Nat}{at_ most left L D:Nat}{cop:Bool}{pl:Int}(h:M.Lk bs at_ most cop pl left L D) (hm:most=min 258 (bs.length-at_)) (ha:at_≤30000) (hend:left=0∨most≤L∨pl = -1) :
  M.Told bs at_ cop (if qU cop L D then ⟨0,L,D⟩ else ⟨bs.getD at_ 0,0,0⟩):=by
 by_cases hw:qU cop L D=true
 ·rw [if_pos hw]
  have hL:3≤L:=by
   unfold qU at hw;simp at hw;omega
  refine ⟨.inr ⟨rfl,hL,?_,?_⟩,fun _ h0=>?_⟩
  ·have:=h.le;show L≤258;omega
  ·rcases h.best with ⟨h0,_⟩ | h0
   ·omega
   ·exact h0
  ·simp only at h0;omega
 ·rw [if_neg hw]
  refine ⟨.inl rfl,fun hc _=>h.done hc hm (by omega) hend ?_⟩
  unfold qU at hw;simp at hw;omega
def qH (bs:List Nat) (at_:Nat) (cop:Bool) (pl:Nat):M.Tok:=
 if qU cop (M.xC bs at_ (min 258 (bs.length-at_)) (if cop then pl else 32768) (la bs at_) 0 0).1 (M.xC bs at_ (min 258 (bs.length-at_)) (if cop then pl else 32768) (la bs at_) 0 0).2 then ⟨0,(M.xC bs at_ (min 258 (bs.length-at_)) (if cop then pl else 32768) (la bs at_) 0 0).1,(M.xC bs at_ (min 258 (bs.length-at_)) (if cop then pl else 32768) (la bs at_) 0 0).2⟩ else ⟨bs.getD at_ 0,0,0⟩
theorem ziN {bs:List Nat}{at_ pl mo LF L D:Nat}{cop:Bool}{y0:Int}(hm:mo=min 258 (bs.length-at_)) (hl:LF=if cop then pl else 32768) (hy:y0=la bs at_) (h:(L,D)=M.xC bs at_ mo LF y0 0 0) :
  (if qU cop L D then ⟨0,L,D⟩ else ⟨bs.getD at_ 0,0,0⟩:M.Tok)=qH bs at_ cop pl:=by
 unfold qH;rw [←hm,←hl,←hy,←h]
structure Tk (w:World) (B p mb ab pl wt:Nat) (bv:Value) (bs:List Nat) (cop:Bool) (n bx b4 L D:Nat) (wr:World):Prop where
 fin:Fin wr B p mb ab pl wt bv bs cop n
 below:Below w.heap.size w wr
 best:Blk wr bx 128 #[.int .u8 0,.int .i64 (L:Nat),.int .i64 (D:Nat)]
 ans:Blk wr b4 128 #[.int .u8 0,.int .i64 0,.int .i64 0]
 new:w.heap.size≤bx∧w.heap.size≤b4∧bx≠b4
theorem Tk.drewN {w:World}{B p mb ab pl wt:Nat}{bv:Value}{bs:List Nat}{cop:Bool}{n bx b4 L D:Nat}{wr:World}(h:Tk w B p mb ab pl wt bv bs cop n bx b4 L D wr) (q:Nat):Tk w B p mb ab pl wt bv bs cop n bx b4 L D (wr.drewN q):=
 ⟨h.fin.drewN q,below_drewN h.below q,h.best.drewN q,h.ans.drewN q,h.new⟩
abbrev zas (w:World) (g:Nat) (a b c:Value):World:=((w.setCell ⟨g,0,none⟩ a).setCell ⟨g,1,none⟩ b).setCell ⟨g,2,none⟩ c
theorem ub {w:World}{g:Nat}{t:TypeId}{x y z:Value}(h:Blk w g t #[x,y,z]) (a b c:Value):Blk (zas w g a b c) g t #[a,b,c]:=by
 have:=((h.setCell 0 a).setCell 1 b).setCell 2 c;simpa using this
theorem jX (w:World) (g:Nat) (a b c:Value):Touch (fun k=>k=g) w (zas w g a b c):=
 (((Touch.refl (fun k=>k=g) w).setCell ⟨g,0,none⟩ a (.inl rfl)).setCell ⟨g,1,none⟩ b (.inl rfl)).setCell ⟨g,2,none⟩ c (.inl rfl)
theorem _root_.Go.Proofs.YtacpfpghokcdlaaGreatDoor.Touch.cellAt {S:Nat→Prop}{w w':World}(h:Touch S w w'){a:Addr}{v:Value}(hc:w.cell? a=some v) (hs:¬S a.block):w'.cell? a=some v:=by
 rw [World.cell?_of_block (w:=w) (h.block _ (World.block_lt_of_cell? w _ hc) hs)];exact hc
theorem UJ {t:Array Value}{W:World}{q:Nat}{x0 x1 x2:Value}(h4:t[4]? = some (.pointer (some ⟨q,0,none⟩))) (h:Blk W q 128 #[x0,x1,x2]) :
  (results Tryz.f122 t).run prog W=.ok (.agg #[x0,x1,x2]) W:=by
 have e0:=(h.cell 0).trans (show _=some x0 from rfl);have e1:=(h.cell 1).trans (show _=some x1 from rfl);have e2:=(h.cell 2).trans (show _=some x2 from rfl);simp [results,results122,h4,go_sem,e0,e1,e2]
theorem Fin.low {w w':World}{S:Nat→Prop}{B p mb ab pl wt:Nat}{bv:Value}{bs:List Nat}{cop:Bool}{n:Nat}(_h:Fin w B p mb ab pl wt bv bs cop n){w0:World}(h0:Fin w0 B p mb ab pl wt bv bs cop n) (hb:Below w0.heap.size w0 w) (ht:Touch S w w') (hS:∀ k,S k→w0.heap.size≤k):Fin w' B p mb ab pl wt bv bs cop n:=
 h0.grow (hb.trans (ht.below hb.size hS))
theorem Tk.setBest {w:World}{B p mb ab pl wt:Nat}{bv:Value}{bs:List Nat}{cop:Bool}{n bx b4 L D:Nat}{wr:World}(h0:Fin w B p mb ab pl wt bv bs cop n) (h:Tk w B p mb ab pl wt bv bs cop n bx b4 L D wr) (L' D':Nat) :
  Tk w B p mb ab pl wt bv bs cop n bx b4 L' D' (zas wr bx (.int .u8 0) (.int .i64 (L':Nat)) (.int .i64 (D':Nat))):=by
 have ht:=jX wr bx (.int .u8 0) (.int .i64 (L':Nat)) (.int .i64 (D':Nat));have hn:=h.new;exact ⟨h.fin.low h0 h.below ht fun k hk=>by omega,h.below.trans (ht.below h.below.size fun k hk=>by omega),ub h.best _ _ _,h.ans.touch ht (by omega),hn⟩
theorem Tk.grow {w:World}{B p mb ab pl wt:Nat}{bv:Value}{bs:List Nat}{cop:Bool}{n bx b4 L D:Nat}{wr w':World}(h:Tk w B p mb ab pl wt bv bs cop n bx b4 L D wr) (hb:Below wr.heap.size wr w'):Tk w B p mb ab pl wt bv bs cop n bx b4 L D w':=
 ⟨h.fin.grow hb,Qk h.below hb,h.best.below hb,h.ans.below hb,h.new⟩
set_option maxHeartbeats 6400000 in
theorem Xl (p mb ab pl wt:Nat) (ao:Option Addr) (c:Nat) (bs:List Nat) (cop:Bool) (B n at_:Nat) (w:World) (h0:Fin w B p mb ab pl wt (.slice ao bs.length c) bs cop n) (hn:at_+3≤bs.length→n=at_) (hb:Bs bs) (hl:bs.length≤30000) (ha:at_<bs.length) :
  Calls prog 122 #[.pointer (some ⟨p,0,none⟩),.int .i64 at_] w fun e w'=>(∃ t,e=.returned (tv t)∧M.Told bs at_ cop t∧t=qH bs at_ cop pl)∧Below w.heap.size w w':=by
 obtain ⟨L,hL⟩:=exq (bs.length);obtain ⟨mo,hmo⟩:=exq (min 258 (L-at_));have e0:IntKind.i64.wrap ((L:Int)-at_)=((L-at_:Nat):Int):=by rw [IntKind.wrap_i64];omega
 have HCM:=J (show min (258:Int) ((L-at_:Nat):Int)=(mo:Int) by omega);have hsz:=h0.blk.lt;have b4:=Blk.made w 128 #[.int .u8 0,.int .i64 0,.int .i64 0];have hb4:Below w.heap.size w (w.alloc (.cells #[.int .u8 0,.int .i64 0,.int .i64 0] 128)):=(Below.refl _ _).alloc (Nat.le_refl _) _;have F4:=h0.grow hb4;have c2:=(F4.blk.cell 2).trans (show _=some (Value.slice ao bs.length c) from rfl);rw [←hL] at c2;go_enter func122,ntmps122;go_upto_region 1 with fail
 go_cut [5] from 18 (fun s5 wx=>s5=.int .i64 (mo:Nat)∧wx=w.alloc (.cells #[.int .u8 0,.int .i64 0,.int .i64 0] 128));case first=>
  have hcm:=HCM.out;go_wp2;all_goals
   go_meet
   case rel=>exact ⟨by first | rfl | (congr 1 <;> omega),rfl⟩
 case rest=>
 obtain ⟨rfl,rfl⟩:=hcut;have HF:=J h0;have HT0:Hid (Tk w B p mb ab pl wt (.slice ao bs.length c) bs cop n (w.alloc (.cells #[.int .u8 0,.int .i64 0,.int .i64 0] 128)).heap.size w.heap.size 0 0 ((w.alloc (.cells #[.int .u8 0,.int .i64 0,.int .i64 0] 128)).alloc (.cells #[.int .u8 0,.int .i64 0,.int .i64 0] 128))):=J (by
  have h1:=hb4.alloc hb4.size (.cells #[.int .u8 0,.int .i64 0,.int .i64 0] 128);have hs1:=Ul w (.cells #[.int .u8 0,.int .i64 0,.int .i64 0] 128);exact ⟨h0.grow h1,h1,Blk.made _ _ _,b4.below ((Below.refl _ _).alloc (Nat.le_refl _) _),by omega,Nat.le_refl _,by omega⟩)
 have HS:=J hmo;have HLL:=J hL;have hl2:L≤30000:=by omega
 have ha2:at_<L:=by omega
 have hmob:mo≤258∧at_+mo≤L:=by omega
 have HB:=J (And.intro hb (And.intro hl (And.intro ha hn)));clear b4 F4 hsz h0 hmo hL hb hl ha hn;generalize hW1:w.alloc (.cells #[.int .u8 0,.int .i64 0,.int .i64 0] 128)=W1 at HT0 c2 hb4 ⊢;clear hW1;go_wp2_with fail
 have HT1:=HT0;refine (Jm p mb ab pl wt (.slice ao bs.length c) bs cop B at_ _ (fun h3=>by have:=HT0.out.fin;rwa [HB.out.2.2.2 h3] at this) ((HT0.out.fin.blk.cell 2).trans rfl) HT0.out.fin.by_ HB.out.1 HB.out.2.1 (by have:=HB.out.2.2.1;omega)).mono ?_;rintro e w2 ⟨rfl,q1,rfl⟩;have HT2:=J (HT0.out.drewN q1);generalize (W1.alloc (.cells #[.int .u8 0,.int .i64 0,.int .i64 0] 128)).drewN q1=W2 at HT2 ⊢;have HQ:=J HT2.out.fin.nums;clear HT0 HT1;go_wp2_with fail
 refine (yy p pl cop _ ((HT2.out.fin.blk.cell 0).trans rfl) ((HT2.out.fin.blk.cell 5).trans rfl)).mono ?_;rintro e w3 ⟨rfl,rfl⟩;have HNX:=J HT2.out.new;generalize W1.heap.size=bx at HT2 HNX ⊢;obtain ⟨LF,hLF⟩:=exq (if cop then pl else 32768:Nat);have hLF2:LF≤32768:=by rw [hLF];have:=HQ.out.1;split <;> omega
 have HK0:Hid (M.Lk bs at_ mo cop (la bs at_) LF 0 0):=J (by
  unfold la;split
  ·exact M.Lk.start fun hc=>by rw [hLF,hc];rfl
  ·exact M.Lk.none (fun hc=>by rw [hLF,hc];rfl) (by omega))
 have HY0:Hid (la bs at_ ≠ -1→at_+3≤bs.length):=J (by unfold la;split <;> omega);obtain ⟨y0,hy0⟩:=exq (la bs at_);rw [←hy0] at HK0 HY0 ⊢;rw [←hLF];have HEQ:=J (fun (Lx Dx:Nat) (hx:(Lx,Dx)=M.xC bs at_ mo LF y0 0 0)=>ziN (cop:=cop) (pl:=pl) (by rw [←HLL.out];exact HS.out) hLF hy0 hx)
 clear hLF hy0 HCM c2 hb4 HQ e0;go_wp2;go_loopg [7,8] 32769 (fun gm v7 v8 wr=>∃ (pv:Int) (left Lb Db:Nat),left+1≤gm∧v7=.int .i64 pv∧v8=.int .i64 (left:Nat)∧Hid ((left≤32768∧(pv ≠ -1→at_+3≤bs.length)∧M.xC bs at_ mo left pv Lb Db=M.xC bs at_ mo LF y0 0 0)∧M.Lk bs at_ mo cop pv left Lb Db∧Tk w B p mb ab pl wt (.slice ao bs.length c) bs cop n bx w.heap.size Lb Db wr))
 case atStart=>exact ⟨y0,LF,0,0,by omega,rfl,rfl,J ⟨⟨hLF2,HY0.out,rfl⟩,HK0.out,HT2.out⟩⟩
 case round=>
  clear HK0 HT2 HY0;obtain ⟨pv,left,Lb,Db,hgm,rfl,rfl,HR⟩:=hrel;have hlb:=HR.out.1.1;have x1:=(HR.out.2.2.best.cell 1).trans (show _=some (.int .i64 (Lb:Nat)) from rfl);by_cases hgo:0<left∧Lb<mo∧pv ≠ -1
  ·obtain ⟨g1,g2,g3⟩:=hgo
   obtain ⟨pp,rfl⟩:∃ pp:Nat,pv=(pp:Int):=⟨pv.toNat,by have:=HR.out.2.1.low;omega⟩;have hpa:pp<at_:=by have:=HR.out.2.1.high;omega
   obtain ⟨left,rfl⟩:∃ l,left=l+1:=⟨left-1,by omega⟩;have h3:at_+3≤bs.length:=HR.out.1.2.1 g3;have h3L:at_+3≤L:=by rw [HLL.out];exact h3
   obtain ⟨bk,off,rfl,k1⟩:=xd HR.out.2.2.fin.by_ (pp+Lb) (by rw [←HLL.out];omega);obtain ⟨b2,off2,he,k2⟩:=xd HR.out.2.2.fin.by_ (at_+Lb) (by rw [←HLL.out];omega);simp only [Option.some.injEq,Addr.mk.injEq,and_true] at he;obtain ⟨rfl,rfl⟩:=he;have c2:=(HR.out.2.2.fin.blk.cell 2).trans (show _=some (Value.slice (some ⟨bk,off,none⟩) bs.length c) from rfl);have c4:=(HR.out.2.2.fin.blk.cell 4).trans (show _=some (Value.slice (some ⟨ab,0,none⟩) bs.length bs.length) from rfl);rw [←HLL.out] at c2 c4;obtain ⟨g,hg,hgv⟩:=HR.out.2.2.fin.ring;have r1:=(hg.cell pp).trans (zw _ _ pp (by rw [←HLL.out];omega));rw [hgv pp (by rw [HB.out.2.2.2 h3];exact hpa)] at r1;obtain ⟨nx,hnx⟩:=exq (M.pv bs (M.zM bs pp) pp);rw [←hnx] at r1;have hnxb:nx ≠ -1→at_+3≤bs.length:=fun _=>h3
   have HNXB:=J hnxb;have f0:=HR.out.2.2.best.free 0;have f1:=HR.out.2.2.best.free 1;have f2:=HR.out.2.2.best.free 2;have x0:=(HR.out.2.2.best.cell 0).trans (show _=some (.int .u8 0) from rfl);have x2:=(HR.out.2.2.best.cell 2).trans (show _=some (.int .i64 (Db:Nat)) from rfl);obtain ⟨x,hx⟩:=exq (bs.getD (pp+Lb) 0);obtain ⟨y,hy⟩:=exq (bs.getD (at_+Lb) 0);rw [←hx] at k1;rw [←hy] at k2;obtain ⟨dd,hdd⟩:=exq (at_-pp);have e1:IntKind.i64.wrap ((pp:Int)+Lb)=(pp:Int)+Lb:=by rw [IntKind.wrap_i64];omega
   have e2:IntKind.i64.wrap ((at_:Int)+Lb)=(at_:Int)+Lb:=by rw [IntKind.wrap_i64];omega
   have e3:IntKind.i64.wrap ((at_:Int)-pp)=(dd:Int):=by rw [IntKind.wrap_i64];omega
   have e4:(at_:Int)-pp=(dd:Int):=by omega
   have l1:(pp:Int)+Lb<L:=by omega
   have l2:(at_:Int)+Lb<L:=by omega
   have t1:((pp:Int)+Lb).toNat=pp+Lb:=by omega
   have t2:((at_:Int)+Lb).toNat=at_+Lb:=by omega
   have s1:(0:Int)≤(pp:Int)+Lb:=by omega
   have s2:(0:Int)≤(at_:Int)+Lb:=by omega
   have u1:(0:Int)<((left+1:Nat):Int):=by omega
   have u2:(Lb:Int)<mo:=by omega
   have u2n:Lb<mo:=g2;have u3:((pp:Int) == -1)=false:=by first | (simp;done) | (simp;omega)
   have u4:(dd:Int)≤32768:=by omega
   have u5:IntKind.i64.wrap (((left+1:Nat):Int)-1)=(left:Int):=by rw [IntKind.wrap_i64];omega
   have u6:((left+1:Nat):Int)-1=(left:Int):=by omega
   have m1:(pp:Int).tmod 32768=(pp:Int):=by rw [Int.tmod_eq_emod_of_nonneg (by omega)];omega
   have m2:(pp:Int)%32768=(pp:Int):=by omega
   have i1:(pp:Int)<L:=by omega
   obtain ⟨lf,hlf⟩:=exq (left+1);rw [←hlf] at u1 u5 u6 HR ⊢;have HD:=J (And.intro hdd (And.intro hnx hlf));have HXY:=J (And.intro hx hy);have hddb:1≤dd∧dd≤at_∧dd≤30000:=by omega
   clear h3 hg hgv hnx hnxb hx hy hdd hlf g3;by_cases hxy:x=y
   ·subst hxy
    have dxy:((x:Int) == x)=true:=by simp
    obtain ⟨nn,hnn⟩:=exq (M.same bs at_ dd mo);have HN:=J hnn;have hnm:nn≤mo:=by rw [hnn];exact M.zb2 bs dd mo at_
    have HC:∀ W,(∃ q,W=wr.drewN q)→Calls prog 156 #[.slice (some ⟨bk,off,none⟩) bs.length c,.int .i64 at_,.int .i64 dd,.int .i64 mo] W fun e w'=>e=.returned (.int .i64 (nn:Nat))∧∃ m,w'=wr.drewN m:=JW fun q=>by
     rw [hnn];exact zdd (wr.drewN q) _ bs at_ dd mo (HR.out.2.2.drewN q).fin.by_ (by have:=HB.out.2.1;omega) (by rw [←HLL.out];exact ha2) hddb.1 hddb.2.1 (by omega)
    rw [←HLL.out] at HC;have HC:=J HC;clear hnn;go_wp2;go_quiet (fail)
    go_wp2_with fail
    refine (HC.out _ ?_).mono ?_
    ·exact ⟨_,rfl⟩
    rintro e w3 ⟨rfl,q3,rfl⟩;clear HC;have HR3:=J (HR.out.2.2.drewN q3);have HCP:Hid (M.Cop bs at_ nn dd):=J (by
     rw [HN.out,HD.out.1];exact M.UL hpa (by have:=HB.out.2.1;omega) (by have:=HB.out.2.2.1;omega))
    have H4:Hid (M.four bs at_ (at_-pp)→4≤nn):=J fun h4=>by
     have h5:=M.zdl h4 (most:=mo) (by have:=h4.1;have:=HS.out;have:=HLL.out;omega);rwa [←HD.out.1,←HN.out] at h5
    by_cases hbt:Lb<nn
    ·have v1:(Lb:Int)<nn:=by omega
     have HS3:=J (HR3.out.setBest HF.out nn dd);have c4':=(HS3.out.fin.blk.cell 4).trans (show _=some (Value.slice (some ⟨ab,0,none⟩) bs.length bs.length) from rfl);rw [←HLL.out] at c4';have r1':=((jX (wr.drewN q3) bx (.int .u8 0) (.int .i64 (nn:Nat)) (.int .i64 (dd:Nat)))).cellAt r1 (by have:=HR3.out.new;have:=HF.out.ring;obtain ⟨g,hg,_⟩:=this;have:=hg.lt;show ¬ab=bx;omega);go_wp2;go_roundg (left+1)
     case measure=>omega
     case rel=>
      refine ⟨nx,left,nn,dd,Nat.le_refl _,rfl,rfl,J ⟨⟨by omega,HNXB.out,?_⟩,?_,HS3.out⟩⟩
      ·rw [←HR.out.1.2.2,HD.out.2.2,HD.out.2.1,HN.out,HD.out.1]
       exact (M.zae u2n (by rw [←HXY.out.1,←HXY.out.2]) (by rw [←HD.out.1,←HN.out];exact hbt)).symm
      have hk:=HR.out.2.1;rw [HD.out.2.2] at hk;rw [HD.out.2.1];exact hk.next (by omega) hnm (.inr HCP.out) H4.out
    ·have v1:decide ((Lb:Int)<nn)=false:=by simp;omega
     have v2:decide (Lb<nn)=false:=by simp;omega
     go_wp2;go_roundg (left+1)
     case measure=>omega
     case rel=>
      refine ⟨nx,left,Lb,Db,Nat.le_refl _,rfl,rfl,J ⟨⟨by omega,HNXB.out,?_⟩,?_,HR3.out⟩⟩
      ·rw [←HR.out.1.2.2,HD.out.2.2,HD.out.2.1]
       exact (M.zcU u2n (fun e=>by have:=e.2;rw [←HD.out.1,←HN.out] at this;omega)).symm
      have hk:=HR.out.2.1;rw [HD.out.2.2] at hk;rw [HD.out.2.1];exact hk.next (Nat.le_refl _) hk.le hk.best (fun h4=>by have:=H4.out h4;omega)
   ·have dxy:((x:Int) == y)=false:=by simp;omega
    go_wp2;go_quiet (fail)
    go_wp2;have HNE:Hid (bs.getD (pp+Lb) 0≠bs.getD (at_+Lb) 0):=J (by rw [←HXY.out.1,←HXY.out.2];exact hxy);go_roundg (left+1)
    case measure=>omega
    case rel=>
     refine ⟨nx,left,Lb,Db,Nat.le_refl _,rfl,rfl,J ⟨⟨by omega,HNXB.out,?_⟩,?_,HR.out.2.2.drewN _⟩⟩
     ·rw [←HR.out.1.2.2,HD.out.2.2,HD.out.2.1]
      exact (M.zcU u2n (fun e=>HNE.out e.1)).symm
     have hk:=HR.out.2.1;rw [HD.out.2.2] at hk;rw [HD.out.2.1];exact hk.next (Nat.le_refl _) hk.le hk.best (fun h4=>M.zcW h4 hpa HNE.out)
  ·have hend:left=0∨mo≤Lb∨pv = -1:=by omega
   have HEX:Hid ((if qU cop Lb Db then ⟨0,Lb,Db⟩ else ⟨bs.getD at_ 0,0,0⟩:M.Tok)=qH bs at_ cop pl):=J (HEQ.out Lb Db (by rw [←HR.out.1.2.2,M.KL hend]));have HTo:=J (zjE HR.out.2.1 (by rw [←HLL.out];exact HS.out) (by omega) hend);have hbd:Lb≤1000000∧Db≤1000000:=by
    have:=HR.out.2.1.le;rcases HR.out.2.1.best with ⟨_,h⟩ | h
    ·omega
    ·have:=h.2.2.1;omega
   have x0:=(HR.out.2.2.best.cell 0).trans (show _=some (.int .u8 0) from rfl);have x2:=(HR.out.2.2.best.cell 2).trans (show _=some (.int .i64 (Db:Nat)) from rfl);have hcs:(left=0)∨(0<left∧mo≤Lb)∨(0<left∧Lb<mo∧pv = -1):=by omega
   clear hend hgo;rcases hcs with rfl | ⟨q1,q2⟩ | ⟨q1,q2,rfl⟩
   all_goals first | (have q1':(0:Int)<left:=by omega) | skip
   all_goals first | (have q2':decide ((Lb:Int)<mo)=false:=by simp;omega) | (have q2'':(Lb:Int)<mo:=by omega) | skip
   all_goals first | (have q3':decide (Lb<mo)=false:=by simp;omega) | skip
   all_goals
    go_wp2_with fail
    refine (Ui p 0 Lb Db cop wr ((HR.out.2.2.fin.blk.cell 5).trans rfl) HR.out.2.2.fin.blk.lt hbd.1 hbd.2).mono ?_;rintro e w5 ⟨rfl,hb5⟩;have HR5:=J (HR.out.2.2.grow hb5);clear hb5 x0 x1 x2;have x0:=(HR5.out.best.cell 0).trans (show _=some (.int .u8 0) from rfl);have x1:=(HR5.out.best.cell 1).trans (show _=some (.int .i64 (Lb:Nat)) from rfl);have x2:=(HR5.out.best.cell 2).trans (show _=some (.int .i64 (Db:Nat)) from rfl);have z0:=(HR5.out.ans.cell 0).trans (show _=some (.int .u8 0) from rfl);have z1:=(HR5.out.ans.cell 1).trans (show _=some (.int .i64 0) from rfl);have z2:=(HR5.out.ans.cell 2).trans (show _=some (.int .i64 0) from rfl);have f0:=HR5.out.ans.free 0;have f1:=HR5.out.ans.free 1;have f2:=HR5.out.ans.free 2;obtain ⟨bk,off,rfl,k1⟩:=xd HR5.out.fin.by_ at_ (by rw [←HLL.out];exact ha2);have c2:=(HR5.out.fin.blk.cell 2).trans (show _=some (Value.slice (some ⟨bk,off,none⟩) bs.length c) from rfl);rw [←HLL.out] at c2;have hai:(at_:Int)<L:=by omega
    have HBL:∀ a b d,Below w.heap.size w (zas w5 w.heap.size a b d):=fun a b d=>HR5.out.below.trans ((jX w5 w.heap.size a b d).below HR5.out.below.size fun k hk=>by omega)
    have HBL:=J HBL;obtain ⟨x,hx⟩:=exq (bs.getD at_ 0);rw [←hx] at k1;have HX:=J hx;clear hx;have HTo2:=HTo;have HEX2:=HEX;cases hw:qU cop Lb Db with
    | true=>
     rw [hw,if_pos rfl] at HTo2 HEX2;clear hw;go_wp2;refine bodyPost_ret (UJ rfl (ub HR5.out.ans _ _ _)) rfl ?_;exact ⟨⟨_,rfl,HTo2.out,HEX2.out⟩,HBL.out _ _ _⟩
    | false=>
     rw [hw,if_neg (by decide),←HX.out] at HTo2 HEX2;clear hw;go_wp2;refine bodyPost_ret (UJ rfl (ub HR5.out.ans _ _ _)) rfl ?_;exact ⟨⟨_,rfl,HTo2.out,HEX2.out⟩,HBL.out _ _ _⟩
theorem uT (p mb ab pl wt:Nat) (v:Value) (bs:List Nat) (cop:Bool) (B at_:Nat) (w:World) (h:Fin w B p mb ab pl wt v bs cop (kp bs at_)) (hb:Bs bs) (hl:bs.length≤30000) (ha:at_<bs.length) :
  Calls prog 122 #[.pointer (some ⟨p,0,none⟩),.int .i64 at_] w fun e w'=>(∃ t,e=.returned (tv t)∧M.Told bs at_ cop t∧t=qH bs at_ cop pl)∧Below w.heap.size w w':=by
 have hby:=h.by_;obtain ⟨ao,c,rfl⟩:=qp hby
 exact Xl p mb ab pl wt ao c bs cop B _ at_ w h (fun h3=>by unfold kp;omega) hb hl ha
theorem zB {ρ : Operand→Value}{o:Oper}{w:World}(x y z:Operand) (ts:Array TypeId) (f:Nat) (caps:Array Value) (v u:Value) (hF:∀ A:Array Value,(callFunc f A).run prog w=.ok (.enter f A) w) (ho:o.op=.call { callee:=.value x,args := #[y,z],argTypes:=ts }) (hx : ρ x=.func (.func f) #[] caps) (hy : ρ y=v) (hz : ρ z=u) :
  (execOp ρ o).run prog w=.ok (.enter f (#[v,u]++caps)) w:=by
 unfold execOp;simp [ho,hx,hy,hz,hF,go_sem]
theorem qh (A:Array Value) (w:World):(callFunc 122 A).run prog w=.ok (.enter 122 A) w:=by kernel_rfl
theorem zk {ops:Array Oper}{o:Oper}{a:Act}{w:World}{K:Act→World→Prop}{Q:Exit→Act→World→Prop}{E:Prop}(hw:Region.wanted o (yielded ops a.tmps)=true) (f:FuncId) (args:Array Value)
  (hr:(execOp a.eval o).run prog w=.ok (.enter f args) w) (R:Value→World→Prop) (hc:Calls prog f args w fun e w'=>∃ v,e=.returned v∧R v w') (h:∀ v w',R v w'→K (a.put o.dst v) w') :
  if Region.wanted o (yielded ops a.tmps)=true then Oper.wp prog o a w K Q else E:=by
 rw [if_pos hw];unfold Oper.wp;rw [hr];exact hc.mono (by rintro e w' ⟨v,rfl,hR⟩;exact h v w' hR)
theorem ziH (x z:Nat) (y:Nat) (W:World):(Instr.field 128 (.agg #[.int .u8 (x:Nat),.int .i64 (y:Nat),.int .i64 (z:Nat)]) 1).run prog W=.ok (.int .i64 (y:Nat)) W:=by kernel_rfl
set_option maxHeartbeats 4000000 in
theorem zed (p bx wt l L D at_ a1 X:Nat) (w W1:World) (hW1:W1=w.alloc (.cells #[.int .u8 (l:Nat),.int .i64 (L:Nat),.int .i64 (D:Nat)] 128)) (hbx:bx=w.heap.size)
  (HC:Hid (∀ W,Below W1.heap.size W1 W→W.cell? ⟨p,5,none⟩=some (.bool true)∧W.cell? ⟨p,1,none⟩=some (.int .i64 (wt:Nat))∧W.cell? ⟨bx,1,none⟩=some (.int .i64 (L:Nat))))
  (HT:Hid (∀ W,(∃ q,W=W1.drewN q)→Calls prog 122 #[.pointer (some ⟨p,0,none⟩),.int .i64 (a1:Nat)] W fun e w'=>(∃ t,e=.returned (tv t)∧t.len=X)∧Below W1.heap.size W1 w'))
  (HBW:Hid (∀ W,Below W1.heap.size W1 W→Below w.heap.size w W))
  (e1:IntKind.i64.wrap (a1:Int)=(a1:Int)) (e2:(at_:Int)+1=(a1:Int)) (h1:(L:Int)<wt) (h0n:0<L) :
  Calls prog 124 #[.pointer (some ⟨p,0,none⟩),.int .i64 at_,tv ⟨l,L,D⟩] w fun e w'=>e=.returned (.bool (decide (L<X)))∧Below w.heap.size w w':=by
 go_enter func124,ntmps124;go_wp2;rw [←hW1,←hbx];clear hW1 hbx;refine wp_region_held_drew (S:=fun W=>W.cell? ⟨p,5,none⟩=some (.bool true)∧W.cell? ⟨p,1,none⟩=some (.int .i64 (wt:Nat))∧W.cell? ⟨bx,1,none⟩=some (.int .i64 (L:Nat))) (by kernel_rfl) (HC.out _ (zQ (Below.refl _ _))) (fun hHeld=>?_)
 refine tA 0 (.pointer (some ⟨p,0,none⟩)) hHeld ?_;dsimp only [List.set];refine tA 1 (.pointer (some ⟨p,0,none⟩)) hHeld ?_;dsimp only [List.set];refine tA 2 (.pointer (some ⟨p,5,none⟩)) hHeld ?_;dsimp only [List.set];refine tA 3 (.bool true) hHeld ?_;dsimp only [List.set];refine tA 4 (.bool true) hHeld ?_;dsimp only [List.set];refine tA 5 (.pointer (some ⟨bx,1,none⟩)) hHeld ?_;dsimp only [List.set];refine tA 6 (.int .i64 (L:Nat)) hHeld ?_;dsimp only [List.set];refine tA 7 (.bool true) hHeld ?_;dsimp only [List.set];refine tA 8 (.bool true) hHeld ?_;dsimp only [List.set];refine tA 9 (.bool true) hHeld ?_;dsimp only [List.set];refine tA 10 (.pointer (some ⟨bx,1,none⟩)) hHeld ?_;dsimp only [List.set];refine tA 11 (.int .i64 (L:Nat)) hHeld ?_;dsimp only [List.set];refine tA 12 (.pointer (some ⟨p,0,none⟩)) hHeld ?_;dsimp only [List.set];refine tA 13 (.pointer (some ⟨p,0,none⟩)) hHeld ?_;dsimp only [List.set];refine tA 14 (.pointer (some ⟨p,0,none⟩)) hHeld ?_;dsimp only [List.set];refine tA 15 (.pointer (some ⟨p,1,none⟩)) hHeld ?_;dsimp only [List.set];refine tA 16 (.int .i64 (wt:Nat)) hHeld ?_;dsimp only [List.set];refine tA 17 (.bool true) hHeld ?_;dsimp only [List.set];refine tA 18 (.bool true) hHeld ?_;dsimp only [List.set];refine tA 19 (.bool true) hHeld ?_;dsimp only [List.set];refine tA 20 (.pointer (some ⟨p,0,none⟩)) hHeld ?_;dsimp only [List.set];refine tA 21 (.int .i64 (at_:Nat)) hHeld ?_;dsimp only [List.set];refine tA 22 (.int .i64 (a1:Nat)) hHeld ?_;dsimp only [List.set];refine tA 25 (.pointer (some ⟨bx,1,none⟩)) hHeld ?_;dsimp only [List.set];refine tA 26 (.int .i64 (L:Nat)) hHeld ?_;dsimp only [List.set];refine wpAnyH_ready (rs:=[23]) (by kernel_rfl) (by simp) ?_;refine AllReadyH.cons (o:={ dst:=some 30,op:=Op.call { callee:=Callee.value (Operand.func 122),args := #[Operand.tmp 27,Operand.tmp 29],argTypes := #[135,3] },type:=128,pos := "match.go:146",after := #[{ on:=20,ground:=Ground.data },{ on:=22,ground:=Ground.data },{ on:=19,ground:=Ground.chain },{ on:=19,ground:=Ground.guard }],guard:=some (19,true) }) rfl (fun K hK=>?_) AllReadyH.nil;refine zk (by rfl) _ _ (zB (.func 122) (.tmp 27) (.tmp 29) _ 122 #[] (.pointer (some ⟨p,0,none⟩)) (.int .i64 (a1:Nat)) (fun _=>qh _ _) rfl rfl rfl rfl) (fun v W=>(∃ tl tL tD:Nat,v=.agg #[.int .u8 (tl:Nat),.int .i64 (tL:Nat),.int .i64 (tD:Nat)]∧tL=X)∧Below W1.heap.size W1 W) ?_ ?_
 ·refine (HT.out _ ⟨1,rfl⟩).mono ?_
  rintro e W ⟨⟨⟨tl,tL,tD⟩,rfl,hX⟩,hb⟩;exact ⟨_,rfl,⟨tl,tL,tD,rfl,hX⟩,hb⟩
 rintro v W2 ⟨⟨tl,tL,tD,rfl,hXe⟩,hb2⟩;have HXE:=J hXe;clear hXe;have HB2:=J hb2;refine hK.out _ _ (HC.out _ hb2) (fun hHeld=>?_);clear hK K hb2;have hfd:=fun W=>ziH tl tD tL W
 try simp only [Act.put,List.setIfInBounds_toArray,List.set_cons_zero,List.set_cons_succ]
 refine tA 24 (.int .i64 (tL:Nat)) hHeld ?_;dsimp only [List.set];refine tA 27 (.bool (decide (L<tL))) hHeld ?_;dsimp only [List.set];refine tA 28 (.bool (decide (L<tL))) hHeld ?_;dsimp only [List.set];refine tA 29 (.bool (decide (L<tL))) hHeld ?_;dsimp only [List.set];refine wpAnyH_done (by kernel_rfl) ?_ _;clear hHeld;go_wp2;go_ret;exact ⟨by rw [←HXE.out];rfl,HBW.out _ HB2.out⟩
theorem zdP {P:Program}{f:Nat}{args:Array Value}{w:World}{E:Ending→Prop}(h:∀ q,Calls P f args (w.drewN q) fun e w'=>E e∧Below (w.drewN q).heap.size (w.drewN q) w') :
  ∀ W,(∃ q,W=w.drewN q)→Calls P f args W fun e w'=>E e∧Below w.heap.size w w':=fun W hW=>by
 obtain ⟨q,rfl⟩:=hW;refine (h q).mono ?_;rintro e w' ⟨h1,h2⟩;exact ⟨h1,Qk (below_drewN (Below.refl _ _) q) h2⟩
def gvF (bs:List Nat) (at_:Nat) (cop:Bool) (pl wt L:Nat):Bool:=cop && decide (0<L) && decide (L<wt) && decide (L<(qH bs (at_+1) cop pl).len)
set_option maxHeartbeats 1600000 in
theorem Qs (p mb ab pl wt l L D:Nat) (v:Value) (bs:List Nat) (cop:Bool) (B at_:Nat) (w:World) (h:Fin w B p mb ab pl wt v bs cop (kp bs (at_+1))) (hb:Bs bs) (hl:bs.length≤30000) (ha:0<L→at_+1<bs.length) (hal:at_≤30000) (hL:L≤258) :
  Calls prog 124 #[.pointer (some ⟨p,0,none⟩),.int .i64 at_,tv ⟨l,L,D⟩] w fun e w'=>(∃ c:Bool,e=.returned (.bool c)∧(c=true→cop=true)∧c=gvF bs at_ cop pl wt L)∧Below w.heap.size w w':=by
 obtain ⟨W1,hW1⟩:=exq (w.alloc (.cells #[.int .u8 (l:Nat),.int .i64 (L:Nat),.int .i64 (D:Nat)] 128));have hb1:Below w.heap.size w W1:=by rw [hW1];exact (Below.refl _ _).alloc (Nat.le_refl _) _
 have F1:=h.grow hb1;obtain ⟨bx,hbx⟩:=exq (w.heap.size);have x1:W1.cell? ⟨bx,1,none⟩=some (.int .i64 (L:Nat)):=by rw [hW1,hbx,(Blk.made w 128 _).cell];rfl
 have c1:=(F1.blk.cell 1).trans (show _=some (Value.int .i64 (wt:Nat)) from rfl);have c5:=(F1.blk.cell 5).trans (show _=some (Value.bool cop) from rfl);have HB1:=J hb1;by_cases hc:cop=true
 ·subst hc
  by_cases h0:0<L
  ·by_cases h1:L<wt
   ·refine (zed p bx wt l L D at_ (at_+1) (qH bs (at_+1) true pl).len w W1 hW1 hbx (J fun W hW=>⟨hW.cell (World.block_lt_of_cell? _ _ c5) |>.trans c5,hW.cell (World.block_lt_of_cell? _ _ c1) |>.trans c1,hW.cell (World.block_lt_of_cell? _ _ x1) |>.trans x1⟩)
     (J fun W hW=>(zdP (fun q=>uT p mb ab pl wt v bs true B (at_+1) (W1.drewN q) (F1.drewN q) hb hl (ha h0)) W hW).mono ?_) (J fun W hW=>Qk hb1 hW) (by rw [IntKind.wrap_i64];omega) (by omega) (by omega) h0).mono ?_
    ·rintro e w' ⟨⟨t,rfl,ht,hte⟩,hbb⟩
     exact ⟨⟨t,rfl,by rw [hte]⟩,hbb⟩
    ·rintro e w' ⟨rfl,hbb⟩
     exact ⟨⟨_,rfl,fun _=>rfl,by simp [gvF,h0,h1]⟩,hbb⟩
   ·have h0':(0:Int)<L:=by omega
    have h1':decide ((L:Int)<wt)=false:=by simp;omega
    have h1'':decide (L<wt)=false:=by simp;omega
    clear h hb1 F1 hb hl ha;go_enter func124,ntmps124;go_wp2;rw [←hW1,←hbx];clear hW1 hbx;go_quiet (fail)
    go_wp2;go_ret;exact ⟨⟨false,rfl,by simp,by simp [gvF,h1]⟩,below_drewN HB1.out _⟩
  ·have hL0:decide ((0:Int)<L)=false:=by simp;omega
   have hL0':decide (0<L)=false:=by simp;omega
   clear h hb1 F1 hb hl ha;go_enter func124,ntmps124;go_wp2;rw [←hW1,←hbx];clear hW1 hbx;go_quiet (fail)
   go_wp2;go_ret;exact ⟨⟨false,rfl,by simp,by simp [gvF,h0]⟩,below_drewN HB1.out _⟩
 ·obtain rfl:cop=false:=by cases cop;rfl;exact absurd rfl hc
  clear h hb1 F1 hb hl ha;go_enter func124,ntmps124;go_wp2;rw [←hW1,←hbx];clear hW1 hbx;go_quiet (fail)
  go_wp2;go_ret;exact ⟨⟨false,rfl,id,by simp [gvF]⟩,below_drewN HB1.out _⟩
theorem Fin.touched {S:Nat→Prop}{w w':World}{B p mb ab pl wt:Nat}{bv:Value}{bs:List Nat}{cop:Bool}{n:Nat}(h:Fin w B p mb ab pl wt bv bs cop n) (ht:Touch S w w') (h1:¬S p) (h2:¬S mb) (h3:¬S ab) (hS:∀ k,S k→B≤k):Fin w' B p mb ab pl wt bv bs cop n:=by
 obtain ⟨t1,t2⟩:=h.touch ht h1 hS;obtain ⟨D,⟨es,clock,hk,F,hs,hD⟩,hM⟩:=h.map;obtain ⟨g,hg,hv⟩:=h.ring;exact ⟨t1,t2,⟨D,⟨es,clock,(ht.block mb (Array.getElem?_eq_some_iff.1 hk).1 h2).trans hk,F,hs,hD⟩,hM⟩,⟨g,hg.touch ht h3,hv⟩,h.far,h.nums⟩
theorem Fin.setCop {w:World}{B p mb ab pl wt:Nat}{bv:Value}{bs:List Nat}{cop:Bool}{n:Nat}(h:Fin w B p mb ab pl wt bv bs cop n) (c:Bool):Fin (w.setCell ⟨p,5,none⟩ (.bool c)) B p mb ab pl wt bv bs c n∧Touch (fun k=>k=p) w (w.setCell ⟨p,5,none⟩ (.bool c)):=by
 have ht:Touch (fun k=>k=p) w (w.setCell ⟨p,5,none⟩ (.bool c)):=(Touch.refl _ w).setCell _ _ (.inl rfl);have hf:=h.far;obtain ⟨D,⟨es,clock,hk,F,hs,hD⟩,hM⟩:=h.map;obtain ⟨g,hg,hv⟩:=h.ring;refine ⟨⟨?_,zgh h.by_ hf.1 ht fun k hk=>by omega,⟨D,⟨es,clock,(ht.block mb (Array.getElem?_eq_some_iff.1 hk).1 (by omega)).trans hk,F,hs,hD⟩,hM⟩,⟨g,hg.touch ht (by omega),hv⟩,hf,h.nums⟩,ht⟩
 have:=h.blk.setCell 5 (.bool c);simpa using this
structure Tq (w:World) (B p mb ab pl wt:Nat) (v:Value) (bs:List Nat) (n:Nat) (cop:Bool) (r:List M.Tok) (lv:Value) (wr:World):Prop where
 fin:Fin wr B p mb ab pl wt v bs cop n
 own:wr.ownsRow w.heap.size 128 3 lv r.length (tcl r)
 below:Below B w wr
 old:p<w.heap.size∧mb<w.heap.size∧ab<w.heap.size∧B≤w.heap.size
structure Tt (w:World) (B p mb ab pl wt:Nat) (v:Value) (bs:List Nat) (n:Nat) (cop:Bool) (r:List M.Tok) (lv:Value) (bt:Nat) (t:M.Tok) (wr:World):Prop where
 q:Tq w B p mb ab pl wt v bs n cop r lv wr
 x:Blk wr bt 128 #[.int .u8 (t.lit:Nat),.int .i64 (t.len:Nat),.int .i64 (t.dist:Nat)]
 new:w.heap.size≤bt
 nb:∀ k,lv.ownBlock=some k→k≠bt
section
variable {w wr w':World}{B p mb ab pl wt n n':Nat}{v:Value}{bs:List Nat}{cop:Bool}{r:List M.Tok}{lv:Value}{bt:Nat}{t:M.Tok}
theorem Tq.touched {S:Nat→Prop}(h:Tq w B p mb ab pl wt v bs n cop r lv wr) (hf:Fin w' B p mb ab pl wt v bs cop n') (ht:Touch S wr w') (hS:∀ k,S k→B≤k) (ho:∀ k,lv.ownBlock=some k→¬S k):Tq w B p mb ab pl wt v bs n' cop r lv w':=
 ⟨hf,zd h.own ht ho,h.below.trans (ht.below (Nat.le_trans h.old.2.2.2 h.below.size) hS),h.old⟩
theorem Tq.grow (h:Tq w B p mb ab pl wt v bs n cop r lv wr) (hb:Below wr.heap.size wr w'):Tq w B p mb ab pl wt v bs n cop r lv w':=
 h.touched (S:=fun _=>False) (h.fin.grow hb) (Touch.of_below hb) (fun _ e=>e.elim) (fun _ _ e=>e)
theorem Tq.made (h:Tq w B p mb ab pl wt v bs n cop r lv wr) (t:M.Tok):Tt w B p mb ab pl wt v bs n cop r lv wr.heap.size t (wr.alloc (.cells #[.int .u8 (t.lit:Nat),.int .i64 (t.len:Nat),.int .i64 (t.dist:Nat)] 128)):=
 ⟨h.grow ((Below.refl _ _).alloc (Nat.le_refl _) _),Blk.made wr 128 _,h.below.size,fun k hk=>by have:=(h.own.lt k hk).2;omega⟩
theorem Tt.grow (h:Tt w B p mb ab pl wt v bs n cop r lv bt t wr) (hb:Below wr.heap.size wr w'):Tt w B p mb ab pl wt v bs n cop r lv bt t w':=
 ⟨h.q.grow hb,h.x.below hb,h.new,h.nb⟩
theorem Tq.keep (h:Tq w B p mb ab pl wt v bs n cop r lv wr) (hf:Fin w' B p mb ab pl wt v bs cop n') (ht:Touch (Kps mb ab) wr w'):Tq w B p mb ab pl wt v bs n' cop r lv w':=by
 have ho:=h.old;have hff:=h.fin.far;exact h.touched hf ht (fun k hk=>by unfold Kps at hk;omega) (fun k hk hs=>by have:=(h.own.lt k hk).1;unfold Kps at hs;omega)
theorem Tt.keep (h:Tt w B p mb ab pl wt v bs n cop r lv bt t wr) (hf:Fin w' B p mb ab pl wt v bs cop n') (ht:Touch (Kps mb ab) wr w'):Tt w B p mb ab pl wt v bs n' cop r lv bt t w':=by
 have ho:=h.q.old;have hn:=h.new;exact ⟨h.q.keep hf ht,h.x.touch ht (by unfold Kps;omega),hn,h.nb⟩
theorem Tt.set (h:Tt w B p mb ab pl wt v bs n cop r lv bt t wr) (t':M.Tok):Tt w B p mb ab pl wt v bs n cop r lv bt t' (zas wr bt (.int .u8 (t'.lit:Nat)) (.int .i64 (t'.len:Nat)) (.int .i64 (t'.dist:Nat))):=by
 have ht:=jX wr bt (.int .u8 (t'.lit:Nat)) (.int .i64 (t'.len:Nat)) (.int .i64 (t'.dist:Nat));have ho:=h.q.old;have hn:=h.new;exact ⟨h.q.touched (h.q.fin.touched ht (by omega) (by omega) (by omega) (fun k hk=>by omega)) ht (fun k hk=>by omega) (fun k hk hs=>h.nb k hk hs),ub h.x _ _ _,hn,h.nb⟩
theorem Tt.app {lv':Value}{o:Obj}{m:Nat}(h:Tt w B p mb ab pl wt v bs n cop r lv bt t wr) (hA:Apg (wr.alloc o) w.heap.size 128 3 lv m (tcl r++tcl [t]) lv' w') (hm:m=r.length+1):Tt w B p mb ab pl wt v bs n cop (r++[t]) lv' bt t w':=by
 subst hm;have hB:=hA.alloc;have ho:=h.q.old;have hlow:∀ k,lv.ownBlock=some k→w.heap.size≤k:=fun k hk=>(h.q.own.lt k hk).1
 have hF:=h.q.fin.touched hB.touch (fun e=>by have:=hlow _ e;omega) (fun e=>by have:=hlow _ e;omega) (fun e=>by have:=hlow _ e;omega) (fun k hk=>by have:=hlow k hk;omega);refine ⟨⟨hF,?_,h.q.below.trans (hB.touch.below (Nat.le_trans ho.2.2.2 h.q.below.size) fun k hk=>by have:=hlow k hk;omega),ho⟩,h.x.touch hB.touch fun e=>h.nb _ e rfl,h.new,fun k hk=>?_⟩
 ·have:=hB.own
  rw [uj] at this;rwa [List.length_append,List.length_singleton]
 ·rcases hB.row k hk with e | e
  ·exact h.nb k e
  ·have:=h.x.lt;omega
theorem Tt.copy (h:Tt w B p mb ab pl wt v bs n cop r lv bt t wr) (c:Bool):Tt w B p mb ab pl wt v bs n c r lv bt t (wr.setCell ⟨p,5,none⟩ (.bool c)):=by
 obtain ⟨hF,ht⟩:=h.q.fin.setCop c;have ho:=h.q.old;have hf:=h.q.fin.far;have hn:=h.new;exact ⟨⟨hF,zd h.q.own ht (fun k hk hs=>by have:=(h.q.own.lt k hk).1;omega),h.q.below.trans (ht.below (Nat.le_trans ho.2.2.2 h.q.below.size) fun k hk=>by omega),ho⟩,h.x.touch ht (by omega),hn,h.nb⟩
end
def jt (bs:List Nat) (pl wt:Nat):Nat→Nat→Bool→List M.Tok
 | 0,_,_=>[]
 | fu+1,at_,cop=>
  if at_<bs.length then
   (if gvF bs at_ cop pl wt (qH bs at_ cop pl).len then ⟨bs.getD at_ 0,0,0⟩ else qH bs at_ cop pl) ::
    jt bs pl wt fu (at_+M.tells (if gvF bs at_ cop pl wt (qH bs at_ cop pl).len then ⟨bs.getD at_ 0,0,0⟩ else qH bs at_ cop pl)) (cop || decide (0<(if gvF bs at_ cop pl wt (qH bs at_ cop pl).len then ⟨bs.getD at_ 0,0,0⟩ else qH bs at_ cop pl:M.Tok).len))
  else []
theorem kK {bs:List Nat}{pl wt fu at_:Nat}{cop:Bool}{t:M.Tok}(h:at_<bs.length) (ht:t=if gvF bs at_ cop pl wt (qH bs at_ cop pl).len then ⟨bs.getD at_ 0,0,0⟩ else qH bs at_ cop pl) :
  jt bs pl wt (fu+1) at_ cop=t::jt bs pl wt fu (at_+M.tells t) (cop || decide (0<t.len)):=by
 rw [jt,if_pos h,ht]
theorem Jh {bs:List Nat}{pl wt fu at_:Nat}{cop:Bool}(h:bs.length≤at_):jt bs pl wt fu at_ cop=[]:=by
 cases fu with
 | zero=>rfl
 | succ n=>rw [jt,if_neg (by omega)]
def zl6 (B:Nat) (bs:List Nat) (pl wt:Nat) (w:World) (e:Ending) (w':World):Prop:=
 ∃ ao c r,e=.returned (.slice ao r.length c)∧KS w' ao r∧Below B w w'∧(r.length≤c∧(ao=none→c=0)∧(r=[]→ao=none))∧M.ex r []=some bs∧(∀ t∈r,t.lit<256)∧((∃ t∈r,t.len≠0)∨M.zbk bs)∧r=jt bs pl wt (bs.length+1) 0 false
theorem jU {w:World}{base e size n c:Nat}{ao:Option Addr}{xs:List Value}(h:w.ownsRow base e size (.slice ao n c) n xs):n≤c∧(ao=none→c=0):=by
 rcases h.2 with ⟨h1,h2⟩ | ⟨g,cap,cur,he,_,_,hc,_⟩
 ·cases h1;exact ⟨by omega,fun _=>rfl⟩
 ·cases he;exact ⟨hc,fun h=>by cases h⟩
set_option maxHeartbeats 6400000 in
theorem JK (p mb ab pl wt:Nat) (v:Value) (bs:List Nat) (B:Nat) (w:World) (h:Fin w B p mb ab pl wt v bs false 0) (hb:Bs bs) (hl:bs.length≤30000) (hB:B≤w.heap.size) (hold:p<w.heap.size∧mb<w.heap.size∧ab<w.heap.size) :
  Calls prog 83 #[.pointer (some ⟨p,0,none⟩)] w (zl6 B bs pl wt w):=by
 obtain ⟨ao,c,rfl⟩:=qp h.by_;have H0:Hid (Tq w B p mb ab pl wt (.slice ao bs.length c) bs (kp bs 0) false [] (.slice none 0 0) w):=J ⟨by rw [show kp bs 0=0 by unfold kp;omega];exact h,⟨rfl,.inl ⟨rfl,rfl⟩⟩,Below.refl _ _,hold.1,hold.2.1,hold.2.2,hB⟩;obtain ⟨L,hL⟩:=exq (bs.length);have HL:=J hL;have HB:=J (And.intro hb hl);rw [←hL] at hl;clear h hb hB hold hL;go_enter func83,ntmps83;go_wp2;go_loopg [3,4] (L+1) (fun gm v3 v4 wr=>∃ (at_ k:Nat) (lo:Option Addr) (lc:Nat),at_≤L∧L+1-at_≤gm∧k≤at_∧(k=0→lo=none)∧v3=.slice lo k lc∧v4=.int .i64 (at_:Nat)∧Hid (∃ (r:List M.Tok) (cop:Bool),r.length=k∧Tq w B p mb ab pl wt (.slice ao bs.length c) bs (kp bs at_) cop r (.slice lo k lc) wr∧M.Sof bs at_ r cop∧∃ fu,L<at_+fu∧r++jt bs pl wt fu at_ cop=jt bs pl wt (L+1) 0 false))
 case atStart=>exact ⟨0,0,none,0,Nat.zero_le _,Nat.le_refl _,Nat.le_refl _,fun _=>rfl,rfl,rfl,J ⟨[],false,rfl,H0.out,M.Sof.start bs,L+1,by omega,rfl⟩⟩
 case round=>
  clear H0;obtain ⟨at_,k,lo,lc,ha,hgm,hka,hk0,rfl,rfl,HX⟩:=hrel;have HK0:=J hk0;clear hk0;obtain ⟨r,cop,hrk,hT,hS,hFU⟩:=HX.out;have HT:=J hT;have HS:=J hS;have HRK:=J hrk;have HFU:=J hFU;have c2:=(hT.fin.blk.cell 2).trans (show _=some (Value.slice ao bs.length c) from rfl);rw [←HL.out] at c2;clear hrk hT hS HX hFU;by_cases hlt:at_<L
  ·have hlt':(at_:Int)<L:=by omega
   go_wp2_with fail
   refine (uT p mb ab pl wt _ bs cop B at_ wr HT.out.fin HB.out.1 HB.out.2 (by rw [←HL.out];exact hlt)).mono ?_;rintro e w2 ⟨⟨⟨tl,tL,tD⟩,rfl,htold,hteq⟩,hb2⟩;have HTEQ:=J hteq;clear hteq;have HT2:=J ((HT.out.grow hb2).made ⟨tl,tL,tD⟩);have HTO:=J htold;clear hb2 c2 HT htold;obtain ⟨bt,hbt⟩:=exq (w2.heap.size);rw [←hbt] at HT2;go_wp2_with fail
   refine (zaj p mb ab pl wt _ bs cop B at_ _ HT2.out.q.fin HB.out.1 HB.out.2 (by rw [←HL.out];exact hlt)).mono ?_;rintro e w3 ⟨rfl,hf3,ht3⟩;have HT3:=J (HT2.out.keep hf3 ht3);rw [←hbt];have x0:=(HT3.out.x.cell 0).trans (show _=some (.int .u8 (tl:Nat)) from rfl);have x1:=(HT3.out.x.cell 1).trans (show _=some (.int .i64 (tL:Nat)) from rfl);have x2:=(HT3.out.x.cell 2).trans (show _=some (.int .i64 (tD:Nat)) from rfl);have htL:tL≤258∧(0<tL→at_+1<L):=by
    rcases HTO.out.is with h1 | ⟨_,h3,h4,h5⟩
    ·have:tL=0:=congrArg M.Tok.len h1
     omega
    ·have h6:=h5.2.2.2.1
     rw [←HL.out] at h6;simp only at h3 h4 h6;omega
   clear hf3 ht3 HT2 hbt;go_wp2_with fail
   refine (Qs p mb ab pl wt tl tL tD _ bs cop B at_ w3 HT3.out.q.fin HB.out.1 HB.out.2 (by rw [←HL.out];exact htL.2) (by omega) htL.1).mono ?_;rintro e w4 ⟨⟨cg,rfl,hcg,hcge⟩,hb4⟩;have HCGE:=J (show cg=gvF bs at_ cop pl wt (qH bs at_ cop pl).len by rw [hcge,←HTEQ.out]);clear hcge;have HT4:=J (HT3.out.grow hb4);have HCG:=J hcg;clear hb4 HT3 x0 x1 x2 hcg htL;go_upto_if 23 with fail
   go_cut [] from 7 to 61 (fun wx=>∃ t:M.Tok,Hid (Tt w B p mb ab pl wt (.slice ao bs.length c) bs (kp bs (at_+1)) cop r (.slice lo k lc) bt t wx)∧Hid (M.Told bs at_ cop t∧t=if gvF bs at_ cop pl wt (qH bs at_ cop pl).len then ⟨bs.getD at_ 0,0,0⟩ else qH bs at_ cop pl));case first=>
    cases cg with
    | false=>
     go_wp2;go_meet
     case rel=>exact ⟨_,HT4,J ⟨HTO.out,by rw [←HCGE.out,if_neg (by decide)];exact HTEQ.out⟩⟩
    | true=>
     obtain ⟨bk,off,rfl,k1⟩:=xd HT4.out.q.fin.by_ at_ (by rw [←HL.out];exact hlt);have c2:=(HT4.out.q.fin.blk.cell 2).trans (show _=some (Value.slice (some ⟨bk,off,none⟩) bs.length c) from rfl);rw [←HL.out] at c2;obtain ⟨y,hy⟩:=exq (bs.getD at_ 0);rw [←hy] at k1;have HY:=J hy;have x0:=(HT4.out.x.cell 0).trans (show _=some (.int .u8 (tl:Nat)) from rfl);have x1:=(HT4.out.x.cell 1).trans (show _=some (.int .i64 (tL:Nat)) from rfl);have x2:=(HT4.out.x.cell 2).trans (show _=some (.int .i64 (tD:Nat)) from rfl);have f0:=HT4.out.x.free 0;have f1:=HT4.out.x.free 1;have f2:=HT4.out.x.free 2;clear hy;go_wp2;go_meet
     case rel=>exact ⟨⟨y,0,0⟩,J (HT4.out.set ⟨y,0,0⟩),J ⟨by rw [HY.out];exact M.Told.lit (by simpa using HCG.out),by rw [←HCGE.out,if_pos rfl,HY.out]⟩⟩
   case rest=>
   clear HT4 HTO HCG HCGE HTEQ;obtain ⟨⟨sl,sL,sD⟩,HT5,HTP⟩:=hcut;have HTO:=J HTP.out.1;have HTQ:=J HTP.out.2;clear HTP;have x0:=(HT5.out.x.cell 0).trans (show _=some (.int .u8 (sl:Nat)) from rfl);have x1:=(HT5.out.x.cell 1).trans (show _=some (.int .i64 (sL:Nat)) from rfl);have x2:=(HT5.out.x.cell 2).trans (show _=some (.int .i64 (sD:Nat)) from rfl);have HTL:Hid (at_+M.tells ⟨sl,sL,sD⟩≤L∧M.tells ⟨sl,sL,sD⟩≤258):=J (by have:=HTO.out.tells (by rw [←HL.out];exact hlt);rwa [←HL.out] at this);have hsL:sL≤258:=by have:=HTL.out.2;unfold M.tells at this;simp only at this;omega
   have HOWN:Hid (wc.ownsRow w.heap.size 128 3 (.slice lo k lc) k (tcl r)):=J (by have:=HT5.out.q.own;rwa [HRK.out] at this);have hsz:w.heap.size≤wc.heap.size:=by
    have:=HT5.out.q.old.1;have h1:=HT5.out.x.lt;have h2:=HT5.out.new;omega
   have HAPP:Hid (∀ ao2 cc2 w5,Apg (wc.alloc (.cells #[.int .u8 (sl:Nat),.int .i64 (sL:Nat),.int .i64 (sD:Nat)] 128)) w.heap.size 128 3 (.slice lo k lc) (k+1) (tcl r++tcl [⟨sl,sL,sD⟩]) (.slice ao2 (k+1) cc2) w5→Tt w B p mb ab pl wt (.slice ao bs.length c) bs (kp bs (at_+1)) cop (r++[⟨sl,sL,sD⟩]) (.slice ao2 (k+1) cc2) bt ⟨sl,sL,sD⟩ w5):=J fun ao2 cc2 w5 hA=>HT5.out.app hA (by rw [HRK.out])
   go_upto_region 9 with (refine ze zbc rfl (.tmp 32) (.tmp 34) rfl w.heap.size (.slice lo k lc) (.slice (some ⟨wc.heap.size,0,none⟩) 1 1) k 1 (tcl r) (tcl [⟨sl,sL,sD⟩]) rfl rfl (World.ownsRow.alloc (w:=wc) HOWN.out _) (u0 wc 128 _ _ _) rfl (QG _) (by simp;omega) (by omega) (by omega) ?_;intro ao2 cc2 w6 hA;have HT6:=J (HAPP.out ao2 cc2 w6 hA);clear hA)
   have c5:=(HT6.out.q.fin.blk.cell 5).trans (show _=some (Value.bool cop) from rfl);have f5:=HT6.out.q.fin.blk.free 5;have z1:=(HT6.out.x.cell 1).trans (show _=some (.int .i64 (sL:Nat)) from rfl);clear HT5 HAPP HOWN x0 x1 x2 hsz;go_cut [] from 7 to 61 (fun wx=>Hid (Tt w B p mb ab pl wt (.slice ao bs.length c) bs (kp bs (at_+1)) (cop || decide (0<sL)) (r++[⟨sl,sL,sD⟩]) (.slice ao2 (k+1) cc2) bt ⟨sl,sL,sD⟩ wx));case first=>
    cases cop with
    | true=>
     go_wp2;go_meet
     case rel=>exact J (HT6.out.copy true)
    | false=>
     go_wp2;go_meet
     case rel=>exact J (by have:=HT6.out.copy (decide (0<sL));simpa using this)
   case rest=>
   have HT7:=hcut;clear hcut HT6 c5 f5 z1;obtain ⟨T,hTe⟩:=exq (M.tells ⟨sl,sL,sD⟩);rw [←hTe] at HTL;have HTE:=J hTe;have hT1:1≤T:=by rw [hTe];exact M.xm _
   have hTb:=HTL.out;have HSO:Hid (M.Sof bs (at_+T) (r++[⟨sl,sL,sD⟩]) (cop || decide (0<sL))):=J (by
    rw [hTe];exact HS.out.step HB.out.1 HTO.out (by rw [←HL.out];exact hlt))
   have HFU2:Hid (∃ fu,L<at_+T+fu∧(r++[⟨sl,sL,sD⟩])++jt bs pl wt fu (at_+T) (cop || decide (0<sL))=jt bs pl wt (L+1) 0 false):=J (by
    obtain ⟨fu,h1,h2⟩:=HFU.out;obtain ⟨f,rfl⟩:∃ f,fu=f+1:=⟨fu-1,by omega⟩;rw [kK (by rw [←HL.out];exact hlt) HTQ.out] at h2;refine ⟨f,by omega,?_⟩;rw [←h2,hTe,List.append_assoc];rfl)
   have y0:=(HT7.out.x.cell 0).trans (show _=some (.int .u8 (sl:Nat)) from rfl);have y1:=(HT7.out.x.cell 1).trans (show _=some (.int .i64 (sL:Nat)) from rfl);have y2:=(HT7.out.x.cell 2).trans (show _=some (.int .i64 (sD:Nat)) from rfl);clear hTe HTL HS HTO HTQ HFU;go_wp2_with fail
   refine (zu ⟨sl,sL,sD⟩ _ (by simp only;omega)).mono ?_;rintro e w8 ⟨rfl,hb8⟩;rw [←HTE.out];have HT8:=J (HT7.out.grow hb8).q;obtain ⟨be,hbe⟩:=exq (at_+T);have e1:IntKind.i64.wrap ((at_:Int)+T)=(be:Int):=by rw [IntKind.wrap_i64];omega
   have e2:(at_:Int)+T=(be:Int):=by omega
   rw [←hbe] at HSO hTb HFU2;have hbe2:at_+1≤be:=by omega
   generalize (cop || decide (0<sL))=cop2 at HT7 HT8 HSO HFU2;clear hb8 HT7 y0 y1 y2 HTE hbe hT1;go_wp2;go_loopg [4] (be+1) (fun gm v4 wr2=>∃ a2:Nat,at_+1≤a2∧a2≤be∧be+1-a2≤gm∧v4=.int .i64 (a2:Nat)∧Hid (Tq w B p mb ab pl wt (.slice ao bs.length c) bs (kp bs a2) cop2 (r++[⟨sl,sL,sD⟩]) (.slice ao2 (k+1) cc2) wr2))
   case atStart=>exact ⟨at_+1,Nat.le_refl _,hbe2,by omega,by simp,HT8⟩
   case round=>
    clear HT8 e1 e2;obtain ⟨a2,h1,h2,hgb,rfl,HT9⟩:=hrel;by_cases hab:a2<be
    ·have hab':(a2:Int)<be:=by omega
     go_wp2_with fail
     refine (zaj p mb ab pl wt _ bs cop2 B a2 _ HT9.out.fin HB.out.1 HB.out.2 (by rw [←HL.out];omega)).mono ?_;rintro e w3 ⟨rfl,hf3,ht3⟩;have HT10:=J (HT9.out.keep hf3 ht3);clear hf3 ht3 HT9;go_wp2;go_roundg (be+1-(a2+1))
     case measure=>omega
     case rel=>exact ⟨a2+1,by omega,by omega,Nat.le_refl _,by simp,HT10⟩
    ·obtain rfl:a2=be:=by omega
     go_wp2;go_roundg (L+1-a2)
     case measure=>omega
     case rel=>exact ⟨a2,k+1,ao2,cc2,by omega,Nat.le_refl _,by omega,fun h=>by omega,by simp,rfl,J ⟨_,cop2,by rw [List.length_append,List.length_singleton,HRK.out],HT9.out,HSO.out,HFU2.out⟩⟩
  ·obtain rfl:at_=L:=by omega
   go_wp2;go_ret;have hk:=HRK.out;subst hk;exact ⟨lo,lc,r,rfl,zgd HT.out.own rfl,HT.out.below,⟨(jU HT.out.own).1,(jU HT.out.own).2,fun h=>HK0.out (by rw [h];rfl)⟩,(HS.out.done (by rw [HL.out];exact Nat.le_refl _)).1,HS.out.lit,(HS.out.done (by rw [HL.out];exact Nat.le_refl _)).2,by obtain ⟨fu,_,h2⟩:=HFU.out;rw [Jh (by rw [HL.out];exact Nat.le_refl _),List.append_nil] at h2;rw [h2,HL.out]⟩
end
end Go.Proofs.YtacpfpghokcdlaaGreatDoor.V
