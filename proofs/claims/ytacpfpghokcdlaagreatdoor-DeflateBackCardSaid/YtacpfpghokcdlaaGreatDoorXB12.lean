/- Part 12. -/
import Derived.Maps.OwnIn
import Derived.Sort.LotA
import Derived.Test.YtacpfpghokcdlaaGreatDoorXB11
open Go.Proofs.Tryz
namespace Go.Proofs.YtacpfpghokcdlaaGreatDoor.Y
set_option maxRecDepth 100000
section
open Go.Lib renaming hid → J
open Go.RowKit Go.Shelf
attribute [local go_sem] Oper.semAt_some
theorem xD {W W':World}{row:Option Nat}{g:Nat}{t:TypeId}{cs:Array Value}(h:Blk W g t cs) (hg:W.grownBy W' row) (hr:∀ r,row=some r→∃ o:Obj,W.heap[r]? = some o∧o.isCells=false):Blk W' g t cs:=by
 refine (hg.block g h.lt fun e=>?_).trans h;obtain ⟨o,ho,hc⟩:=hr g e.symm;rw [show W.heap[g]? = _ from h] at ho;cases ho;cases hc
theorem XQ {W W':World}{row:Option Nat}{base e size n:Nat}{v:Value}{xs:List Value}(h:W.ownsRow base e size v n xs) (hg:W.grownBy W' row) (hr:∀ r,row=some r→∃ o:Obj,W.heap[r]? = some o∧o.isCells=false):W'.ownsRow base e size v n xs:=by
 refine ⟨h.1,?_⟩;rcases h.2 with hn | ⟨g,cap,cur,rfl,hb,hgg,rest⟩
 ·exact .inl hn
 ·refine .inr ⟨g,cap,cur,rfl,hb,?_,rest⟩
  refine (hg.block g (Array.getElem?_eq_some_iff.1 hgg).1 fun e=>?_).trans hgg;obtain ⟨o,ho,hc⟩:=hr g e.symm;rw [hgg] at ho;cases ho;cases hc
structure zhj (W:World) (g:Option Nat) (ao:Option Addr) (c:Nat) (r:List (Nat × Bool)):Prop where
 cs:CS W ao r
 room:r.length≤c
 nil:ao=none→c=0
 lt:∀ b off,ao=some ⟨b,off,none⟩→b<W.heap.size∧g≠some b
structure Rst (w W:World) (cs:List Nat) (k:Nat) (v:Value):Prop where
 own:∃ vals,W.ownsRow w.heap.size 236 1 v k vals∧∀ j,j<k→∃ ao c,vals[j]? = some (.slice ao (row cs j).length c)∧zhj W v.ownBlock ao c (row cs j)
 below:Below w.heap.size w W
def dcl (pre:List ((Nat × Bool) × (Nat × Bool))):List Value:=pre.flatMap fun p=>[.int .i64 (wrap64 ((p.1.1:Int)+p.2.1)),.bool false]
theorem zhH (pre:List ((Nat × Bool) × (Nat × Bool))) (x:(Nat × Bool) × (Nat × Bool)):dcl pre++[.int .i64 (wrap64 ((x.1.1:Int)+x.2.1)),.bool false]=dcl (pre++[x]):=by simp [dcl]
def Kj (pre:List ((Nat × Bool) × (Nat × Bool))):List Nat:=pre.map fun p=>p.1.1+p.2.1
theorem zkB (pre:List ((Nat × Bool) × (Nat × Bool))) (h:∀ x∈Kj pre,x≤4611686018427387904):dcl pre=cl (db (Kj pre)):=by
 induction pre with
 | nil=>rfl
 | cons p pre ih=>
  have h1:=h (p.1.1+p.2.1) (by simp [Kj]);have h2:=ih fun x hx=>h x (by simp only [Kj,List.map_cons,List.mem_cons] at hx ⊢;exact .inr hx)
  rw [show dcl (p::pre)=.int .i64 (wrap64 ((p.1.1:Int)+p.2.1)) :: .bool false::dcl pre from rfl,h2];rw [show Kj (p::pre)=(p.1.1+p.2.1)::Kj pre from rfl,show db ((p.1.1+p.2.1)::Kj pre)=(p.1.1+p.2.1,false)::db (Kj pre) from rfl,uh];congr 2
  unfold wrap64;omega
structure Dst (bR n₀ : Nat) (wr:World) (pre:List ((Nat × Bool) × (Nat × Bool))) (W:World):Prop where
 box:∃ ao c,Blk W bR 236 #[.slice ao pre.length c]∧W.ownsRow n₀ 248 2 (.slice ao pre.length c) pre.length (dcl pre)
 below:Below bR wr W
 size:n₀ ≤ W.heap.size
theorem ziG (bR n₀ : Nat) (hb:bR≤n₀) (wr:World) (hw:bR≤wr.heap.size):OwnFrom n₀ (fun (pre:List ((Nat × Bool) × (Nat × Bool))) W=>Dst bR n₀ wr pre W):=fun s W W' row hs hg hr=>by
 obtain ⟨ao,c,h1,h2⟩:=hs.box;have hr':=fun r e=>(hr r e).2
 exact ⟨⟨ao,c,xD h1 hg hr',XQ h2 hg hr'⟩,hs.below.grown hg (Nat.le_trans hw hs.below.size) (fun k e=>Nat.le_trans hb (hr k e).1),Nat.le_trans hs.size hg.size⟩
theorem Dst.alloc {bR n₀ : Nat}{wr W:World}{pre:List ((Nat × Bool) × (Nat × Bool))}(h:Dst bR n₀ wr pre W) (hw:bR≤wr.heap.size) (o:Obj):Dst bR n₀ wr pre (W.alloc o):=by
 obtain ⟨ao,c,h1,h2⟩:=h.box;exact ⟨⟨ao,c,h1.touch ((Touch.refl (fun _=>False) W).alloc o) (fun h=>h),World.ownsRow.alloc h2 o⟩,h.below.alloc (Nat.le_trans hw h.below.size) o,Nat.le_trans h.size (by simp)⟩
theorem kV {S:Nat→Prop}{n:Nat}(W:World) (hn:n≤W.heap.size) (o:Obj):Beb S n W (W.alloc o):=Beb.of_below ((Below.refl W.heap.size W).alloc (Nat.le_refl _) o) hn
theorem zhE (W:World) (u v:Value):∀ j x,([u,v]:List Value)[j]? = some x→(W.alloc (.cells #[u,v] 248)).cell? ((⟨W.heap.size,0,none⟩:Addr).add j)=some x:=fun j x hx=>by
 have hj:j<2:=(List.getElem?_eq_some_iff.1 hx).1;rw [Addr.add_lit,Nat.zero_add,(Blk.made W 248 #[u,v]).cell];rcases (by omega:j=0∨j=1) with rfl | rfl
 ·exact hx
 ·exact hx
theorem Dst.put {bR n₀ : Nat}{wr W w1:World}{pre:List ((Nat × Bool) × (Nat × Bool))}{ao:Option Addr}{c:Nat}{v':Value}{x:(Nat × Bool) × (Nat × Bool)}{o:Obj}(h:Dst bR n₀ wr pre W) (hbn:bR<n₀) (hw:bR≤wr.heap.size)
  (hB:Blk W bR 236 #[.slice ao pre.length c]) (hO:W.ownsRow n₀ 248 2 (.slice ao pre.length c) pre.length (dcl pre))
  (hown:w1.ownsRow n₀ 248 2 v' (pre.length+1) (dcl pre++[.int .i64 (wrap64 ((x.1.1:Int)+x.2.1)),.bool false])) (hgrow:(W.alloc o).grownBy w1 (Value.slice ao pre.length c).ownBlock) :
  Blk w1 bR 236 #[.slice ao pre.length c]∧∃ a2 c2,v' = .slice a2 (pre.length+1) c2∧KeepsFrom n₀ W (w1.setCell ⟨bR,0,none⟩ v')∧Beb (fun k=>k=bR) n₀ W (w1.setCell ⟨bR,0,none⟩ v')∧Dst bR n₀ wr (pre++[x]) (w1.setCell ⟨bR,0,none⟩ v'):=by
 have hlt:=fun k e=>hO.lt k e
 have hB1:Blk w1 bR 236 #[.slice ao pre.length c]:=by
  have h1:=hB.touch ((Touch.refl (fun _=>False) W).alloc o) (fun h=>h);exact (hgrow.block bR h1.lt fun e=>by have:=(hlt bR e.symm).1;omega).trans h1
 obtain ⟨a2,c2,rfl⟩:=zr hown;have hsz:W.heap.size≤w1.heap.size:=Nat.le_trans (by simp) hgrow.size;have hT:Touch (fun k=>n₀ ≤ k) W w1:=((Touch.refl _ W).alloc o).grown hgrow fun k e => .inl (hlt k e).1
 have hT2:Touch (fun k=>k=bR∨n₀ ≤ k) W (w1.setCell ⟨bR,0,none⟩ (.slice a2 (pre.length+1) c2)):=(hT.mono fun k hk => .inr hk).setCell _ _ (.inl (.inl rfl));refine ⟨hB1,a2,c2,rfl,?_,?_,⟨⟨a2,c2,?_,?_⟩,?_,?_⟩⟩
 ·refine (KeepsOthers.trans ?_ (KeepsOthers.setCell _ _ _)).from _
  refine (KeepsOthers.alloc W o).trans (KeepsOthers.of_grownBy hgrow fun j ob e hob=>?_);have hj:=hlt j e;rcases hO.2 with ⟨e1,_⟩ | ⟨g,cap,cur,e1,hbg,hh,_⟩
  ·rw [e1] at e;cases e
  ·rw [e1] at e
   obtain rfl:g=j:=by simpa [Value.ownBlock] using e
   have:=(Below.heap_alloc W o g hj.2).trans hh;rw [this] at hob;cases hob;rfl
 ·exact ⟨hT2.os,hT2.tape,hT2.output,hT2.size,fun k hk hs=>hT2.block k (Nat.lt_of_lt_of_le hk h.size) (fun e=>by rcases e with e | e;exact hs e;omega)⟩
 ·have:=hB1.setCell 0 (.slice a2 (pre.length+1) c2)
  rw [List.length_append];exact this
 ·rw [List.length_append,←zhH]
  exact ownsRow_setCell_other hown (fun e=>by have:=(hown.lt bR e).1;omega) _
 ·exact h.below.trans (hT2.below (Nat.le_trans hw h.below.size) fun k hk=>by omega)
 ·exact Nat.le_trans h.size hT2.size
def mk (D:Nat):Deferred:={ target:=.collected D,args := #[] }
def Marks (n:Nat) (W:World) (ds:List Deferred):Prop:=∃ Ds:List Nat,ds=Ds.map mk∧Ds.Nodup∧∀ D∈Ds,n≤D∧W.heap[D]? = some (.deferred (some []))
theorem zdy (n:Nat) (W:World):Marks n W []:=⟨[],rfl,List.nodup_nil,fun D hD=>by cases hD⟩
theorem Marks.add {n:Nat}{W W':World}{ds:List Deferred}(h:Marks n W ds) (hsame:∀ k,k<W.heap.size→W.heap[k]? = some (.deferred (some []))→W'.heap[k]? = W.heap[k]?){D:Nat}(hD:W.heap.size≤D) (hn:n≤D) (hK:W'.heap[D]? = some (.deferred (some []))):Marks n W' (mk D::ds):=by
 obtain ⟨Ds,rfl,h1,h2⟩:=h;refine ⟨D::Ds,rfl,List.nodup_cons.2 ⟨fun hm=>?_,h1⟩,fun E hE=>?_⟩
 ·have:=(Array.getElem?_eq_some_iff.1 (h2 D hm).2).1
  omega
 ·rcases List.mem_cons.1 hE with rfl | hE
  ·exact ⟨hn,hK⟩
  ·have:=h2 E hE
   exact ⟨this.1,(hsame E (Array.getElem?_eq_some_iff.1 this.2).1 this.2).trans this.2⟩
theorem Xy {n n0:Nat}{fn:Func}{tmps:Array Value}{R:Ending→World→Prop}{v:Value}(hres:∀ W,(results fn tmps).run prog W=.ok v W) (PF:World→Prop)
  (hPF:∀ W D,PF W→n0≤D→W.heap[D]? = some (.deferred (some []))→PF (W.putObj D (.deferred none))) (hR:∀ W,PF W→R (.returned v) W) (ds:List Deferred) (W:World) (hM:Marks n0 W ds) (hP:PF W) :
  LeavesInM FW n prog fn tmps R ds .returning W:=by
 obtain ⟨Ds,rfl,h1,h2⟩:=hM;induction Ds generalizing W with
 | nil=>exact ⟨v,hres W,hR W hP⟩
 | cons D Ds ih=>
  obtain ⟨hn,h1'⟩:=List.nodup_cons.1 h1;have hD:=h2 D List.mem_cons_self;refine ⟨by simp,.inl ⟨D,_,rfl,run_takeDeferred hD.2,?_⟩⟩;refine ih _ (hPF W D hP hD.1 hD.2) h1' (fun E hE=>?_);have hE2:=h2 E (List.mem_cons_of_mem _ hE);exact ⟨hE2.1,(World.putObj_heap_other (show E≠D from fun e=>hn (by rw [←e];exact hE))).trans hE2.2⟩
theorem Rst.put_mark {w W:World}{cs:List Nat}{k:Nat}{v:Value}(h:Rst w W cs k v){D:Nat}(hD:w.heap.size≤D) (hK:W.heap[D]? = some (.deferred (some []))):Rst w (W.putObj D (.deferred none)) cs k v:=by
 obtain ⟨vals,ho,hv⟩:=h.own;have hg:=grownBy_putObj' W D (.deferred none);have hr:∀ r,some D=some r→∃ o:Obj,W.heap[r]? = some o∧o.isCells=false:=fun r e=>by cases e;exact ⟨_,hK,rfl⟩
 refine ⟨⟨vals,XQ ho hg hr,fun j hj=>?_⟩,h.below.grown hg h.below.size fun k e=>by cases e;exact hD⟩
 obtain ⟨ao,c,h1,h2⟩:=hv j hj;refine ⟨ao,c,h1,?_,h2.room,h2.nil,fun b off e=>⟨by have:=(h2.lt b off e).1;simpa using this,(h2.lt b off e).2⟩⟩
 rcases h2.cs with h | ⟨b,off,rfl,hc⟩
 ·exact .inl h
 ·exact .inr ⟨b,off,rfl,fun i x hx=>cell_kept (hc i x hx) hg hr⟩
theorem Rst.last {w W:World}{cs:List Nat}{k c5:Nat}{a5:Option Addr}(h:Rst w W cs k (.slice a5 k c5)) (hk:1≤k) :
  ∃ g a6 c6,a5=some ⟨g,0,none⟩∧W.cell? ⟨g,k-1,none⟩=some (.slice a6 (row cs (k-1)).length c6)∧zhj W (some g) a6 c6 (row cs (k-1)):=by
 obtain ⟨vals,ho,hv⟩:=h.own;rcases ho.2 with ⟨_,h0⟩ | ⟨g,cap,cur,e,hbg,hh,hnc,hcm,hcs,htake⟩
 ·omega
 ·simp only [Value.slice.injEq] at e
  obtain ⟨rfl,_,rfl⟩:=e;obtain ⟨a6,c6,h1,h2⟩:=hv (k-1) (by omega);exact ⟨g,a6,c6,rfl,by rw [World.ownsRow.cellAt ho (k-1) (by omega),h1],h2⟩
theorem zdu {w:World}{ao:Option Addr}{c:Nat}{cs:List Nat}(h:CS w ao (sg cs)) (hn:ao=none→c=0) (hc:cs.length≤c) (h1:2≤cs.length):Rst w (w.alloc (.cells #[.slice ao cs.length c] 236)) cs 1 (.slice (some ⟨w.heap.size,0,none⟩) 1 1):=by
 have hb:Below w.heap.size w (w.alloc (.cells #[.slice ao cs.length c] 236)):=(Below.refl _ _).alloc (Nat.le_refl _) _;refine ⟨⟨[.slice ao cs.length c],⟨rfl,.inr ⟨w.heap.size,1,#[.slice ao cs.length c],rfl,Nat.le_refl _,heap_alloc_new w _,Nat.le_refl _,by unfold maxLen;omega,rfl,rfl⟩⟩,fun j hj=>?_⟩,hb⟩
 obtain rfl:j=0:=by omega
 refine ⟨ao,c,by rw [xA];rfl,by rw [zjI];exact h.on hb,by rw [xA];exact hc,hn,fun b off e=>?_⟩
 have e:=congrArg (Option.map Addr.block) e;rcases h with h0 | ⟨b',off',rfl,hr⟩
 ·have:=congrArg List.length h0
  rw [JS,List.length_nil] at this;omega
 ·have e2:b'=b:=by simpa using e
  have h2:b'<w.heap.size:=World.block_lt_of_cell? w ⟨b',off'+0*2,none⟩ (hr _ _ (Kx (sg cs) 0 (by rw [JS];omega)).1);rw [World.size_alloc];exact ⟨by omega,fun e3=>by simp [Value.ownBlock] at e3;omega⟩
theorem Qc (cs:List Nat) (hl:cs.length≤320) (k:Nat):(row cs k).length≤640:=by
 induction k with
 | zero=>rw [xA];omega
 | succ k ih=>rw [QL];omega
theorem zdJ {cs:List Nat}{M:Nat}(h:∀ x∈cs,x≤M) (k:Nat):∀ x∈cost (row cs k),x≤M*2^k:=by
 induction k with
 | zero=>intro x hx;rw [zjI,kW] at hx;have:=h x hx;omega
 | succ k ih=>
  intro x hx;rw [zjN] at hx;have hp:0<2^k:=Nat.two_pow_pos k;rw [Nat.pow_succ];rcases zh6 hx with h1 | h1
  ·have h2:=h x h1
   have h3:M*1≤M*(2^k*2):=Nat.mul_le_mul_left _ (by omega);omega
  ·obtain ⟨a,b,ha,hb,rfl⟩:=uA h1
   have h2:=ih a ha;have h3:=ih b hb;rw [←Nat.mul_assoc];omega
theorem zad {l:List Nat}{k:Nat}(h:∀ x∈l,x≤1099511627776*2^k) (hk:k≤15):∀ x∈qI l,x≤4611686018427387904:=fun x hx=>by
 obtain ⟨a,b,ha,hb,rfl⟩:=uA hx;have h1:=h a ha;have h2:=h b hb;have h3:1099511627776*2^k≤1099511627776*2^15:=Nat.mul_le_mul_left _ (Nat.pow_le_pow_right (by omega) hk);omega
theorem zmw:(prog.info? 236).map (fun i=>(i.zero,i.size,i.bytes))=some (some (.slice none 0 0),1,24):=by kernel_rfl
theorem zhN (W:World) (u:Value):∀ j x,([u]:List Value)[j]? = some x→(W.alloc (.cells #[u] 236)).cell? ((⟨W.heap.size,0,none⟩:Addr).add j)=some x:=fun j x hx=>by
 have hj:j<1:=(List.getElem?_eq_some_iff.1 hx).1;rw [Addr.add_lit,Nat.zero_add,(Blk.made W 236 #[u]).cell];obtain rfl:j=0:=by omega
 exact hx
theorem zaU {W X w5:World}{bR base:Nat}{v:Value}{k:Nat}{vals:List Value}(h:Below bR W X) (hb:bR=W.heap.size) (h2:Below X.heap.size X w5) (hr:W.ownsRow base 236 1 v k vals):w5.ownsRow base 236 1 v k vals:=by
 subst hb;exact ownsRow_below (ownsRow_below hr h) h2
theorem JF (cs:List Nat) (k:Nat):cs.length≤(row cs k).length:=by
 cases k with
 | zero=>rw [xA];exact Nat.le_refl _
 | succ k=>rw [QL];omega
theorem zih {w W X w5 w6:World}{cs:List Nat}{k g c5 cm c7 bR:Nat}{am a7:Option Addr}{vals:List Value}{u:Value}
  (hro:W.ownsRow w.heap.size 236 1 (.slice (some ⟨g,0,none⟩) k c5) k vals) (hva:∀ j,j<k→∃ ao c,vals[j]? = some (.slice ao (row cs j).length c)∧zhj W (Value.slice (some ⟨g,0,none⟩) k c5).ownBlock ao c (row cs j))
  (hbw:Below w.heap.size w W) (hbR:bR=W.heap.size) (hbX:Below bR W X) (hbm:Below X.heap.size X w5) (hcm:CS w5 am (row cs k)) (hmr:(row cs k).length≤cm) (hmn:am=none→cm=0) (hmf:∀ b off,am=some ⟨b,off,none⟩→X.heap.size≤b) (hne:row cs k≠[])
  (hown:w6.ownsRow w.heap.size 236 1 (.slice a7 (k+1) c7) (k+1) (vals++[.slice am (row cs k).length cm])) (hgrow:(w5.alloc (.cells #[u] 236)).grownBy w6 (Value.slice (some ⟨g,0,none⟩) k c5).ownBlock)
  (hfresh:(Value.slice a7 (k+1) c7).ownBlock=(Value.slice (some ⟨g,0,none⟩) k c5).ownBlock∨(Value.slice a7 (k+1) c7).ownBlock=some (w5.alloc (.cells #[u] 236)).heap.size) :
  Rst w w6 cs (k+1) (.slice a7 (k+1) c7)∧(∀ j,j<X.heap.size→j≠g→w6.heap[j]? = X.heap[j]?):=by
 subst hbR;have hgl:=hro.lt g rfl;have hXW:=hbX.size;have h5:=hbm.size;have h6:w5.heap.size+1≤w6.heap.size:=by have:=hgrow.size;simpa using this
 have hblk:∀ j,j<w5.heap.size→j≠g→w6.heap[j]? = w5.heap[j]? := fun j hj hjg=>
  (hgrow.block j (by simp;omega) (fun e=>hjg (by simpa [Value.ownBlock] using e))).trans (Below.heap_alloc _ _ _ hj)
 have hblk2:∀ j,j<X.heap.size→j≠g→w6.heap[j]? = X.heap[j]? := fun j hj hjg=>(hblk j (by omega) hjg).trans (hbm.block j hj)
 refine ⟨⟨⟨_,hown,fun j hj=>?_⟩,?_⟩,hblk2⟩
 ·have hnb:∀ b,b<w5.heap.size→b≠g→(Value.slice a7 (k+1) c7).ownBlock≠some b:=fun b hb hbg e=>by
   rcases hfresh with h | h
   ·rw [h] at e;exact hbg (by simpa [Value.ownBlock] using e.symm)
   ·rw [h] at e
    have:=Option.some.inj e;simp at this;omega
  have hlen:=hro.1;by_cases e:j=k
  ·subst e
   refine ⟨am,cm,?_,?_,hmr,hmn,fun b off hb=>?_⟩
   ·rw [List.getElem?_append_right (by omega)]
    simp [hlen]
   ·rcases hcm with h | ⟨b,off,rfl,hc⟩
    ·exact absurd h hne
    ·have h1:=hmf b off rfl
     refine .inr ⟨b,off,rfl,fun i v hv=>?_⟩;have h2:=hc i v hv;have h3:b<w5.heap.size:=World.block_lt_of_cell? w5 _ h2;exact (World.cell?_of_block (hblk b h3 (by omega))).trans h2
   ·have h1:=hmf b off hb
    rcases hcm with h | ⟨b',off',e',hc⟩
    ·exact absurd h hne
    ·have e2:b'=b:=by rw [e'] at hb;simpa using congrArg (Option.map Addr.block) hb
     have h3:b'<w5.heap.size:=World.block_lt_of_cell? w5 ⟨b',off'+0*2,none⟩ (hc _ _ (Kx (row cs j) 0 (List.length_pos_iff.2 hne)).1);exact ⟨by omega,hnb b (by omega) (by omega)⟩
  ·obtain ⟨ao,c,h1,h2⟩:=hva j (by omega)
   refine ⟨ao,c,?_,?_,h2.room,h2.nil,fun b off hb=>?_⟩
   ·rw [List.getElem?_append_left (by omega)];exact h1
   ·rcases h2.cs with h | ⟨b,off,rfl,hc⟩
    ·exact .inl h
    ·have h3:=h2.lt b off rfl
     have hbg:b≠g:=fun e=>h3.2 (by rw [e];rfl)
     refine .inr ⟨b,off,rfl,fun i v hv=>?_⟩;have h4:=hc i v hv;exact (World.cell?_of_block ((hblk2 b (by omega) hbg).trans (hbX.block b h3.1))).trans h4
   ·have h3:=h2.lt b off hb
    have hbg:b≠g:=fun e=>h3.2 (by rw [e];rfl)
    exact ⟨by omega,hnb b (by omega) hbg⟩
 ·have t1:=hbw.trans ((hbX.mono hbw.size).trans (hbm.mono (Nat.le_trans hbw.size hXW)))
  have t2:Below w.heap.size w (w5.alloc (.cells #[u] 236)):=t1.alloc t1.size _;exact t2.grown hgrow t2.size fun j e=>by
   have:g=j:=by simpa [Value.ownBlock] using e
   omega
set_option maxRecDepth 100000 in
set_option maxHeartbeats 8000000 in
theorem zfa (ao:Option Addr) (c lim:Nat) (cs:List Nat) (w:World) (h:CS w ao (sg cs)) (hn:ao=none→c=0) (hc:cs.length≤c) (h1:2≤cs.length) (hl:cs.length≤320) (hL:1≤lim) (hL2:lim≤15) (hM:∀ x∈cs,x≤1099511627776) :
  Calls prog 178 #[.slice ao cs.length c,.int .i64 lim] w fun e w'=>∃ a5 c5,e=.returned (.slice a5 lim c5)∧Rst w w' cs lim (.slice a5 lim c5):=by
 have HI:=J h;have HMM:=J hM;clear h hM;refine (callsIn_wide (n:=9)).1 ?_;refine callsIn_of_wp_marks func178 rfl trivial ?_ rfl;simp only [ntmps178,List.size_toArray,List.length_cons,List.length_nil,Nat.reduceAdd,Nat.reduceSub,Array.replicate_succ,Array.replicate_zero,List.push_toArray,List.append_toArray,List.nil_append,List.cons_append];gi_wp2
 have H0:Hid (Rst w (w.alloc (.cells #[.slice ao cs.length c] 236)) cs 1 (.slice (some ⟨w.heap.size,0,none⟩) 1 1)):=J (zdu HI.out hn hc h1);refine wpIn_loop (fun a W=>∃ (k:Nat) (ds:List Deferred) (a5:Option Addr) (c5:Nat) (u6 u7 u8 u11 u12 u13 u14 u15 u16 u17 u18 u19 u20 u21 u22 u23 u24 u25 u26 u27 u28 u29 u30 u31 u32 u33 u34 u35 u36 u37 u38:Value),a={ tmps := #[.slice ao cs.length c,.int .i64 lim,undef,undef,.slice none 0 0,.slice a5 k c5,u6,u7,u8,.slice ao cs.length c,.slice (some ⟨w.heap.size,0,none⟩) 1 1,u11,u12,u13,u14,u15,u16,u17,u18,u19,u20,u21,u22,u23,u24,u25,u26,u27,u28,u29,u30,u31,u32,u33,u34,u35,u36,u37,u38,undef],defers:=ds }∧1≤k∧k≤lim∧Rst w W cs k (.slice a5 k c5)∧Marks w.heap.size W ds) (fun a _=>lim-zk0 (a.tmps.getD 5 undef)) ?start ?round;case start=>exact ⟨1,[],_,_,_,_,_,_,_,_,_,_,_,_,_,_,_,_,_,_,_,_,_,_,_,_,_,_,_,_,_,_,_,_,_,rfl,Nat.le_refl _,hL,H0.out,zdy _ _⟩
 case round=>
  rintro a W ⟨k,ds,a5,c5,u6,u7,u8,u11,u12,u13,u14,u15,u16,u17,u18,u19,u20,u21,u22,u23,u24,u25,u26,u27,u28,u29,u30,u31,u32,u33,u34,u35,u36,u37,u38,rfl,hk1,hk,hrst,hmk⟩;have HR:=J hrst;have HMK:=J hmk;clear hrst hmk H0;by_cases hlt:k<lim
  ·have hlt':(k:Int)<lim:=by omega
   obtain ⟨g,a6,c6,rfl,q1,hat⟩:=HR.out.last hk1;have HAT:=J hat;have eK:IntKind.i64.wrap ((k:Int)-1)=((k-1:Nat):Int):=by rw [IntKind.wrap_i64];omega
   obtain ⟨k1,hk1'⟩:=exq (k-1);have HK1:=J hk1';have b1:(k1:Int)<k:=by omega
   rw [←hk1'] at eK q1;obtain ⟨rl,hrl⟩:=exq ((row cs k1).length);have HRL:=J hrl;rw [hk1',←hk1',←hrl] at q1;clear hat hk1' hrl;have q1:=(((Below.refl W.heap.size W).alloc (Nat.le_refl _) (.cells #[.slice none 0 0] 236)).cell (p:=⟨g,k1,none⟩) (World.block_lt_of_cell? W _ q1)).trans q1;gi_wp2_with (refine ⟨trivial,?_⟩;gi_at_call 190;refine (callsIn_wide.2 (zdQ a6 rl c6 _)).mono ?_;rintro e w' ⟨rfl,rfl⟩)
   obtain ⟨bR,hbR⟩:=exq (W.heap.size);have HBR:=J hbR;have B0:=Blk.made W 236 #[.slice none 0 0];have B1:Blk ((W.alloc (.cells #[.slice none 0 0] 236)).alloc (.cells #[.slice a6 rl c6] 236)) bR 236 #[.slice none 0 0]:=by
    rw [hbR];exact B0.touch ((Touch.refl (fun _=>False) _).alloc _) (fun h=>h)
   have B2:Blk ((W.alloc (.cells #[.slice none 0 0] 236)).alloc (.cells #[.slice a6 rl c6] 236)) (bR+1) 236 #[.slice a6 rl c6]:=by
    have:=Blk.made (W.alloc (.cells #[.slice none 0 0] 236)) 236 #[.slice a6 rl c6];rw [World.size_alloc,←hbR] at this;exact this
   have BW:Below bR W ((W.alloc (.cells #[.slice none 0 0] 236)).alloc (.cells #[.slice a6 rl c6] 236)):=by
    rw [hbR];exact ((Below.refl _ W).alloc (Nat.le_refl _) _).alloc (by simp) _
   have hsz:((W.alloc (.cells #[.slice none 0 0] 236)).alloc (.cells #[.slice a6 rl c6] 236)).heap.size=bR+2:=by rw [hbR];simp
   rw [←hbR];obtain ⟨W0,hW0⟩:∃ W0,(W.alloc (.cells #[.slice none 0 0] 236)).alloc (.cells #[.slice a6 rl c6] 236)=W0:=⟨_,rfl⟩;rw [hW0] at B1 B2 BW hsz ⊢;clear hW0 B0 q1;have hk11:k1=k-1:=HK1.out;have hat:=HAT.out;rw [←hk11] at hat;have hrl:(row cs k1).length≤640:=Qc cs hl k1;have hCW:CS W0 a6 (row cs k1):=hat.cs.on (by rw [←hbR];exact BW);have HSZ:=J hsz;refine wpIn_rangeFunc_ownH rfl (by omega) (gf:=196) (lb := #[.pointer (some ⟨bR+1,0,none⟩)]) rfl trivial (enters_of func196 (by kernel_rfl) rfl)
    (zdz (fun k=>k=bR) (9-1) (by omega) (bR+1) a6 c6 (row cs k1) hrl W0 (by rw [←HRL.out];exact B2.cell 0) (by omega) hCW (fun b off e _ hb=>by have:=(hat.lt b off e).1;omega)) (fun h k=>h.trans k) (zjJ (Nat.le_refl _)) (Below.refl _ _) (fun _=>rfl)
    (fun pre W'=>Dst bR (bR+2) W pre W')
    (fun _ _ _=>False)
    (by rw [hsz];exact ziG bR (bR+2) (by omega) W (by omega)) (fun _ _ _ _ _ hs _ _=>hs)
    ⟨⟨none,0,B1,World.ownsRow_nil _ _ _ _⟩,BW,by omega⟩
    (fun x a' W'=>∃ B7 B8,bR+2≤B7∧bR+2≤B8∧Blk W' B7 248 #[.int .i64 (x.1.1:Nat),.bool x.1.2]∧Blk W' B8 248 #[.int .i64 (x.2.1:Nat),.bool x.2.2]∧a'={ tmps := #[.slice ao cs.length c,.int .i64 lim,undef,undef,.slice none 0 0,.slice (some ⟨g,0,none⟩) k c5,.pointer (some ⟨bR,0,none⟩),.pointer (some ⟨B7,0,none⟩),.pointer (some ⟨B8,0,none⟩),.slice ao cs.length c,.slice (some ⟨w.heap.size,0,none⟩) 1 1,.slice (some ⟨g,0,none⟩) k c5,.int .i64 k,.int .i64 lim,.bool true,.slice (some ⟨g,0,none⟩) k c5,.slice (some ⟨g,0,none⟩) k c5,.int .i64 k,.int .i64 k1,.pointer (some ⟨g,k1,none⟩),.slice a6 rl c6,.func (.func 196) #[] #[.pointer (some ⟨bR+1,0,none⟩)],cv x.1,cv x.2,u24,u25,u26,u27,u28,u29,u30,u31,u32,u33,u34,u35,u36,u37,u38,undef],defers:=[] })
    (fun x a' s A B row hs hg hr=>by
     obtain ⟨B7,B8,h7,h8,hb7,hb8,e⟩:=hs;exact ⟨B7,B8,h7,h8,xD hb7 hg (fun r e=>(hr r e).2),xD hb8 hg (fun r e=>(hr r e).2),e⟩) ?assign ?body ?done ?stop
   case assign=>
    rintro l pre ⟨⟨x1,x2⟩,⟨y1,y2⟩⟩ X K hI hK;have HIx:=J hI;have HKx:=J hK;clear hI hK;clear hbR hk11 hsz B1 B2 BW hat hCW hrl;simp only [encs,cv];gi_wp2
    have hs:=HIx.out.size;have hbr:bR≤W.heap.size:=by rw [HBR.out];exact Nat.le_refl _
    have n1:=Blk.made X 248 #[.int .i64 (x1:Nat),.bool x2];have n2:=Blk.made (X.alloc (.cells #[.int .i64 (x1:Nat),.bool x2] 248)) 248 #[.int .i64 (y1:Nat),.bool y2];rw [World.size_alloc] at n2;refine HKx.out _ _ (((KeepsOthers.alloc X _).trans (KeepsOthers.alloc _ _)).from _) ?_ ((HIx.out.alloc hbr _).alloc hbr _) ⟨X.heap.size,X.heap.size+1,hs,by omega,n1.touch ((Touch.refl (fun _=>False) _).alloc _) (fun h=>h),n2,rfl⟩;rw [HSZ.out];exact (kV X hs _).trans (kV _ (by simp;omega) _)
   case body=>
    rintro l pre ⟨⟨x1,x2⟩,⟨y1,y2⟩⟩ a' X _ _ hI ⟨B7,B8,h7,h8,hb7,hb8,rfl⟩ hlt2;have HIx:=J hI;obtain ⟨a3,c3,hbox,hown⟩:=hI.box;have HBX:=J hbox;have HOW:=J hown;have q1:=(hbox.cell 0).trans (show _=some (.slice a3 pre.length c3) from rfl);have q2:=(hb7.cell 0).trans (show _=some (.int .i64 (x1:Nat)) from rfl);have q3:=(hb8.cell 0).trans (show _=some (.int .i64 (y1:Nat)) from rfl);have hbr:bR≤W.heap.size:=by rw [HBR.out];exact Nat.le_refl _
    have hpl:pre.length≤640:=by rw [ud] at hlt2;omega
    have hxs:bR+2≤X.heap.size:=hI.size;obtain ⟨i0,hi,hz0,hz1,hz2⟩:=info_parts zdT.info;clear hI hbox hown hbR hk11 hsz B1 B2 BW hat hCW hrl;have q1':=q1;gi_wp2_with (gi_at_builtin;refine wpListIn_append_own _ rfl _ _ 236 rfl (bR+2) 248 i0 (.agg #[.int .i64 0,.bool false]) 2 16 underlying236 hi hz0 hz1 hz2 rfl (by decide) (.slice a3 pre.length c3) pre.length (dcl pre) rfl (HOW.out.alloc _) ⟨X.heap.size,0,none⟩ 1 1 [.int .i64 (wrap64 ((x1:Int)+y1)),.bool false] rfl rfl (zhE X _ _) (by simp [Value.oneCell']) (by unfold maxLen;omega) (by omega) (by simp;omega) ?_;intro v' w1 hown' hgrow _;obtain ⟨hB1,a4,c4,rfl,hKF,hKB,hD⟩:=HIx.out.put (x:=((x1,x2),(y1,y2))) (by omega) hbr HBX.out HOW.out hown' hgrow;have g1:=(hB1.cell 0).trans (show _=some (.slice a3 pre.length c3) from rfl);have g2:=hB1.free 0)
    exact ⟨by rw [HSZ.out];exact hKF,by rw [HSZ.out];exact hKB,hD⟩
   case done=>
    rintro D ys X hD hys hI hK;have hDB:bR+2≤D:=by rw [←hsz];exact hD
    have hbr:bR≤W.heap.size:=by rw [←hbR];exact Nat.le_refl _
    have hbr2:W.heap.size≤bR:=by rw [←hbR];exact Nat.le_refl _
    obtain ⟨a3,c3,hbox,hown⟩:=hI.box;have hb1:=zdJ HMM.out k1;have hsum:Kj ys=qI (cost (row cs k1)):=by rw [hys];exact KT _
    rw [zkB ys (by rw [hsum];exact zad hb1 (by omega))] at hown;have hyl:ys.length=(qI (cost (row cs k1))).length:=by rw [←hsum];simp [Kj]
    rw [hsum,hyl] at hown;rw [hyl] at hbox;obtain ⟨dd,hdd⟩:=exq (qI (cost (row cs k1)));have HDD:=J hdd;rw [←hdd] at hown hbox;have hdl:dd.length≤320:=by rw [hdd,kX,jE];omega
    have hrm:=UE hown;have hcd:CS X a3 (db dd):=zeI hown (yA dd);have hcs:CS X ao (sg cs):=HI.out.on (HR.out.below.trans (hI.below.mono (Nat.le_trans HR.out.below.size hbr2)));have HMG:=J (zaq ao a3 c c3 cs dd X hcs hcd hl hdl hrm.1 hrm.2);have q1:=(hbox.cell 0).trans (show _=some (.slice a3 dd.length c3) from rfl);have HX:=J hI.below;have HKD:=J hK;have hgd:Hid (∀ j,W.heap[j]? = some (.deferred (some []))→j≠g):=J fun j hj e=>by
     have h1:=HR.out.own;obtain ⟨vals,ho,_⟩:=h1;rcases ho.2 with ⟨h0,_⟩ | ⟨g',cap,cur,h0,_,hh,_⟩
     ·cases h0
     ·simp only [Value.slice.injEq,Option.some.injEq,Addr.mk.injEq] at h0
      rw [←h0.1.1,←e,hj] at hh;cases hh
    have hgl:Hid (g<bR):=J (by
     obtain ⟨vals,ho,_⟩:=HR.out.own;have:=(ho.lt g rfl).2;omega)
    have hXs:=(Array.getElem?_eq_some_iff.1 hK).1;have HN:Hid (w.heap.size≤bR):=J (Nat.le_trans HR.out.below.size hbr2);obtain ⟨vals,hrow,hvals⟩:=HR.out.own;have HRO:=J hrow;have HVA:=J hvals;obtain ⟨i0,hi,hz0,hz1,hz2⟩:=info_parts zmw;clear hI hbox hown hbR hk11 hsz B1 B2 BW hat hCW hrl hdd hsum hyl hys hb1 hcd hcs hK hrow hvals hbr hbr2;gi_wp2_with (first
     | (refine ⟨trivial,?_⟩;gi_at_call 191;refine (callsIn_wide.2 HMG.out).mono ?_;rintro e w5 ⟨am,cm,rfl,hcm,hbm,hmr,hmn,hmf⟩;have hgv:=zaU HX.out HBR.out hbm HRO.out)
     | (gi_at_builtin;go_loud (refine wpListIn_append_own_at _ rfl _ _ 234 rfl w.heap.size 236 i0 (.slice none 0 0) 1 24 underlying234 hi hz0 hz1 hz2 rfl (by decide) (.slice (some ⟨g,0,none⟩) k c5) k vals rfl (hgv.alloc _) ⟨w5.heap.size,0,none⟩ 1 1 [.slice am (mrg cs dd).length cm] rfl rfl (zhN w5 _) (by simp [Value.oneCell']) (by unfold maxLen;omega) (by omega) (by simp;have:=hgv.lt g (by simp [Value.ownBlock]);omega) ?_);intro v' w6 hown' hgrow _ hfresh;obtain ⟨a7,c7,rfl⟩:=zr hown'))
    have heq:mrg cs dd=row cs k:=by
     have h2:=HK1.out;rw [HDD.out,←zjN,show k1+1=k by omega]
    have hne:row cs k≠[]:=fun e=>by
     have:=JF cs k;rw [e,List.length_nil] at this;omega
    rw [heq] at hcm hmr hown';have hfin:=zih HRO.out HVA.out HR.out.below HBR.out HX.out hbm hcm hmr hmn hmf hne hown' hgrow hfresh;refine ⟨⟨k+1,mk D::ds,a7,c7,_,_,_,_,_,_,_,_,_,_,_,_,_,_,_,_,_,_,_,_,_,_,_,_,_,_,_,_,_,_,_,rfl,by omega,by omega,hfin.1,?_⟩,?_⟩
    ·have hXb:=HX.out.size
     refine HMK.out.add (fun j hj hj2=>(hfin.2 j (by omega) (hgd.out j hj2)).trans (HX.out.block j (by rw [HBR.out];exact hj))) (by rw [←HBR.out];omega) (by have:=HN.out;omega) ((hfin.2 D hXs (by have:=hgl.out;omega)).trans HKD.out)
    ·show lim-(k+1)<lim-k
     omega
   case stop=>
    rintro D c pre W' _ _ h _;exact h.elim
  ·have hke:k=lim:=by omega
   subst hke;gi_wp2
   refine Xy (n0:=w.heap.size) (v:=.slice a5 k c5) (fun W'=>(results_tmp (fn:=Tryz.f178) (t:=4) rfl _ _ W').trans rfl) (fun W'=>Rst w W' cs k (.slice a5 k c5)) (fun W' D hR hD hK=>hR.put_mark hD hK) (fun W' hR=>⟨a5,c5,rfl,hR⟩) ds W HMK.out HR.out
end
section
open Go.RowKit Go.Shelf
def stk (cs:List Nat) (D:Nat):Nat→Nat
 | 0=>2*cs.length-2
 | p+1=>2*(stk cs D p-qm (row cs (D-p)) (stk cs D p))
def mss (cs:List Nat) (D p:Nat):Nat:=qm (row cs (D-p)) (stk cs D p)
theorem zln {cs:List Nat}{D:Nat}(F:Fit cs D) (p:Nat) (hp:p≤D):stk cs D p≤(row cs (D-p)).length:=by
 induction p with
 | zero=>exact F.enough
 | succ p ih=>
  have h:=ih (by omega);rw [show D-p=D-(p+1)+1 by omega] at h;obtain ⟨m,S,h1,h2⟩:=xL F.up (D-(p+1)) _ h;rw [stk,show D-p=D-(p+1)+1 by omega,h1];exact h2
theorem zhn {cs:List Nat}{D:Nat}(p:Nat) (hp:p≤D):lev cs (D-p) (stk cs D p)=(List.range (D-p+1)).map fun q=>mss cs D (p+q):=by
 obtain ⟨r,hr⟩:=exq (D-p);induction r generalizing p with
 | zero=>
  rw [←hr,lev];simp [mss,←hr]
 | succ r ih=>
  have h:=ih (p+1) (by omega) (by omega);rw [←hr,lev,List.range_succ_eq_map,List.map_cons,List.map_map];have e:stk cs D (p+1)=2*(stk cs D p-qm (row cs (r+1)) (stk cs D p)):=by rw [stk,←hr]
  rw [←e,show D-(p+1)=r by omega] at *;rw [h];congr 1
  ·simp [mss,←hr]
  ·apply List.map_congr_left
   intro q _;show mss cs D (p+1+q)=mss cs D (p+(q+1));rw [show p+1+q=p+(q+1) by omega]
theorem zjC {cs:List Nat}(D:Nat):top cs D=(List.range (D+1)).map (mss cs D):=by
 have:=zhn (cs:=cs) (D:=D) 0 (Nat.zero_le _);rw [Nat.sub_zero] at this;rw [top,show 2*cs.length-2=stk cs D 0 from rfl,this];congr 1
 funext q
 rw [Nat.zero_add]
def gl' (cs:List Nat) (D p i:Nat):Nat:=la ((List.range p).map (mss cs D)) i
theorem zik (cs:List Nat) (D i:Nat):gl' cs D 0 i=0:=rfl
theorem zjs (cs:List Nat) (D p i:Nat):gl' cs D (p+1) i=gl' cs D p i+if i<mss cs D p then 1 else 0:=by
 unfold gl' la;rw [List.range_succ,List.map_append,List.countP_append];simp [List.countP_cons]
theorem zlJ (cs:List Nat) (D p i:Nat):gl' cs D p i≤p:=by
 have:=la_le ((List.range p).map (mss cs D)) i;simpa [gl'] using this
def LF (us:List Nat) (G:Nat→Nat) (s:Nat):Nat:=if s∈us then G (us.idxOf s) else 0
theorem zlX {us:List Nat}(hn:us.Nodup) (G:Nat→Nat){i:Nat}(hi:i<us.length):LF us G (us.getD i 0)=G i:=by
 have e:us.getD i 0=us[i]:=by simp [List.getD,hi]
 rw [e,LF,if_pos (List.getElem_mem hi),hn.idxOf_getElem i hi]
theorem zll {us:List Nat}(hn:us.Nodup) (G:Nat→Nat){j:Nat}(hj:j<us.length) (s:Nat) :
  LF us (fun i=>G i+if i<j+1 then 1 else 0) s=if s=us.getD j 0 then LF us (fun i=>G i+if i<j then 1 else 0) s+1 else LF us (fun i=>G i+if i<j then 1 else 0) s:=by
 unfold LF;by_cases hs:s∈us
 ·rw [if_pos hs,if_pos hs]
  obtain ⟨i,hi,rfl⟩:=List.getElem_of_mem hs;rw [hn.idxOf_getElem i hi];show G i+(if i<j+1 then 1 else 0)=if us[i]=us.getD j 0 then G i+(if i<j then 1 else 0)+1 else G i+(if i<j then 1 else 0);have e:us.getD j 0=us[j]:=by simp [List.getD,hj]
  rw [e];by_cases hij:i=j
  ·subst hij
   rw [if_pos rfl,if_pos (by omega),if_neg (by omega)]
  ·rw [if_neg (fun h=>hij ((List.getElem_inj hn).1 h))]
   by_cases h1:i<j
   ·rw [if_pos (by omega),if_pos h1]
   ·rw [if_neg (by omega),if_neg h1]
 ·rw [if_neg hs,if_neg hs]
  rw [if_neg (fun h=>hs (by rw [h];simp [List.getD,hj]))]
theorem zhB (us:List Nat) (G:Nat→Nat):LF us (fun i=>G i+if i<0 then 1 else 0)=LF us G:=by
 funext s;unfold LF;simp
theorem UG {W:World}{gl N:Nat}{f:Nat→Nat}(hA:Blk W gl 3 (ia N f)){b off:Nat}{r:List (Nat × Bool)}(h:W.rangeAt b off (cl r)) (hr:r≠[]):b≠gl:=fun e=>by
 subst e;have h1:=h _ _ (Kx r 0 (List.length_pos_iff.2 hr)).2;rw [hA.cell] at h1;have h2:=(Array.getElem?_eq_some_iff.1 h1).1;rw [qW] at h2;rw [zw N _ _ h2] at h1;cases h1
structure Nm where
 bL:Nat
 bU:Nat
 bT:Nat
 gl:Nat
 N:Nat
 bo:Option Addr
 cu:Nat
 k:Nat
 rs:Nat→Sv
structure Lst (n:Nm) (w:World) (cs us:List Nat) (t:Nat) (f:Nat→Nat) (X:World):Prop where
 L:Blk X n.bL 40 #[.slice (some ⟨n.gl,0,none⟩) n.N n.N]
 U:Blk X n.bU 40 #[.slice n.bo us.length n.cu]
 T:Blk X n.bT 3 #[.int .i64 t]
 A:Blk X n.gl 3 (ia n.N f)
 us:IS X n.bo (ints us)
 rows:∀ j,j<n.k→CS X (n.rs j).1 (row cs j)
 tch:Touch (fun k=>k=n.gl) w X
structure Apart (n:Nm) (w:World) (us:List Nat):Prop where
 g:n.gl<w.heap.size
 l:w.heap.size≤n.bL∧w.heap.size≤n.bU∧w.heap.size≤n.bT
 d:n.bL≠n.bT∧n.bU≠n.bT
 u:∀ b off,n.bo=some ⟨b,off,none⟩→us≠[]→b<w.heap.size∧b≠n.gl
 r:∀ j b off,j<n.k→(n.rs j).1=some ⟨b,off,none⟩→b<w.heap.size∧b≠n.gl
theorem CS.touch {S:Nat→Prop}{w w':World}{ao:Option Addr}{r:List (Nat × Bool)}(h:CS w ao r) (ht:Touch S w w') (hs:∀ b off,ao=some ⟨b,off,none⟩→r≠[]→¬S b):CS w' ao r:=by
 rcases h with h | ⟨b,off,rfl,hc⟩
 ·exact .inl h
 ·by_cases e:r=[]
  ·exact .inl e
  ·exact .inr ⟨b,off,rfl,fun j v hv=>by
    have h1:=hc j v hv;exact (World.cell?_of_block (ht.block b (World.block_lt_of_cell? w _ h1) (hs b off rfl e))).trans h1⟩
theorem zcx {us:List Nat}(h:ints us≠[]):us≠[]:=fun e=>h (by rw [e];rfl)
theorem Lst.alloc {n:Nm}{w X:World}{cs us:List Nat}{t:Nat}{f:Nat→Nat}(h:Lst n w cs us t f X) (o:Obj):Lst n w cs us t f (X.alloc o):=by
 have ht:=(Touch.refl (fun _=>False) X).alloc o;exact ⟨h.L.touch ht (fun h=>h),h.U.touch ht (fun h=>h),h.T.touch ht (fun h=>h),h.A.touch ht (fun h=>h),h.us.touch ht (fun _ _ _ _ h=>h),fun j hj=>(h.rows j hj).touch ht (fun _ _ _ _ h=>h),h.tch.alloc o⟩
theorem Lst.drew {n:Nm}{w X:World}{cs us:List Nat}{t:Nat}{f:Nat→Nat}(h:Lst n w cs us t f X):Lst n w cs us t f X.drew:=
 ⟨h.L,h.U,h.T,h.A,h.us,h.rows,h.tch.drew⟩
theorem Lst.setA {n:Nm}{w X:World}{cs us:List Nat}{t:Nat}{f:Nat→Nat}(h:Lst n w cs us t f X) (a:Apart n w us) (s:Nat) (u:Nat) (g:Nat→Nat) (hg:∀ i,i<n.N→g i=if i=s then u else f i) :
  Lst n w cs us t g (X.setCell ⟨n.gl,s,none⟩ (.int .i64 (u:Nat))):=by
 have ht:Touch (fun k=>k=n.gl) X (X.setCell ⟨n.gl,s,none⟩ (.int .i64 (u:Nat))):=(Touch.refl _ X).setCell _ _ (.inl rfl);have h1:=a.g;have h2:=a.l;refine ⟨h.L.touch ht (by omega),h.U.touch ht (by omega),h.T.touch ht (by omega),?_,h.us.touch ht (fun b off e hne hb=>(a.u b off e (zcx hne)).2 hb),fun j hj=>(h.rows j hj).touch ht (fun b off e _ hb=>(a.r j b off hj e).2 hb),h.tch.trans ht⟩
 have:=h.A.setCell s (.int .i64 (u:Nat));rwa [jW n.N f g s u hg] at this
theorem Lst.setT {n:Nm}{w X:World}{cs us:List Nat}{t:Nat}{f:Nat→Nat}(h:Lst n w cs us t f X) (a:Apart n w us) (u:Nat):Lst n w cs us u f (X.setCell ⟨n.bT,0,none⟩ (.int .i64 (u:Nat))):=by
 have ht:Touch (fun k=>k=n.bT) X (X.setCell ⟨n.bT,0,none⟩ (.int .i64 (u:Nat))):=(Touch.refl _ X).setCell _ _ (.inl rfl);have h1:=a.g;have h2:=a.l;refine ⟨h.L.touch ht a.d.1,h.U.touch ht a.d.2,h.T.setCell 0 _,h.A.touch ht (by omega),h.us.touch ht (fun b off e hne hb=>by have:=(a.u b off e (zcx hne)).1;omega),fun j hj=>(h.rows j hj).touch ht (fun b off e _ hb=>by have:=(a.r j b off hj e).1;omega),h.tch.setCell _ _ (.inr h2.2.2)⟩
theorem zi6 (n:Nm) (w:World) (cs us:List Nat) (T:List (Nat × Sv)→Nat) (F:List (Nat × Sv)→Nat→Nat) (m:Nat) (hm:w.heap.size≤m):OwnFrom m (fun (pre:List (Nat × Sv)) X=>Lst n w cs us (T pre) (F pre) X):=fun s A B row hs hg hr=>by
 have hr':=fun r e=>(hr r e).2
 refine ⟨xD hs.L hg hr',xD hs.U hg hr',xD hs.T hg hr',xD hs.A hg hr',?_,fun j hj=>?_,hs.tch.grown hg fun k e => .inr (Nat.le_trans hm (hr k e).1)⟩
 ·rcases hs.us with h | ⟨b,off,e,hc⟩
  ·exact .inl h
  ·exact .inr ⟨b,off,e,fun j hj=>cell_kept (hc j hj) hg hr'⟩
 ·rcases hs.rows j hj with h | ⟨b,off,e,hc⟩
  ·exact .inl h
  ·exact .inr ⟨b,off,e,fun i x hx=>cell_kept (hc i x hx) hg hr'⟩
end
section
open Go.Lib renaming hid → J
open Go.RowKit Go.Shelf
attribute [local go_sem] Oper.semAt_some
theorem zcz {S:Nat→Prop}{n:Nat}(W:World){g:Nat}(hg:S g) (i:Nat) (v:Value):Beb S n W (W.setCell ⟨g,i,none⟩ v):=
 ⟨rfl,rfl,rfl,by simp [World.setCell],fun k _ hs=>Below.heap_setCell W ⟨g,i,none⟩ v k (fun e=>hs (by rw [e];exact hg))⟩
theorem zeq (r:List (Nat × Bool)) (i:Nat) (h:i<r.length):qm r (i+1)=qm r i+if (cn' r i).2=true then 1 else 0:=by
 unfold qm;rw [List.take_succ_eq_append_getElem h,List.countP_append];simp [List.countP_cons,cn',List.getD,h]
set_option maxRecDepth 100000 in
set_option maxHeartbeats 8000000 in
theorem Xc (gl N:Nat) (bo:Option Addr) (cu g5 c5 k:Nat) (rs:Nat→Sv) (cs us:List Nat) (w:World)
  (hrow:∀ j,j<k→w.cell? ⟨g5,j,none⟩=some (sv (rs j))) (hrl:∀ j,j<k→(rs j).2.1=(row cs j).length∧(row cs j).length≤(rs j).2.2∧CS w (rs j).1 (row cs j)∧∀ b off,(rs j).1=some ⟨b,off,none⟩→b<w.heap.size∧b≠gl)
  (hg5:g5<w.heap.size) (hg5l:g5≠gl) (hA:Blk w gl 3 (ia N fun _=>0)) (hU:IS w bo (ints us)) (hub:∀ b off,bo=some ⟨b,off,none⟩→us≠[]→b<w.heap.size∧b≠gl)
  (hnd:us.Nodup) (hun:us.length=cs.length) (huN:∀ u∈us,u<N) (hk1:1≤k) (hk:k≤15) (F:Fit cs (k-1)) (hcl:cs.length≤320) :
  Calls prog 177 #[.slice (some ⟨gl,0,none⟩) N N,.slice bo us.length cu,.slice (some ⟨g5,0,none⟩) k c5] w fun e w'=>
   e=.returned (.tuple #[])∧Blk w' gl 3 (ia N (LF us (la (top cs (k-1)))))∧Touch (fun k=>k=gl) w w':=by
 have HROW:=J hrow;have HRL:=J hrl;have HA:=J hA;have HU:=J hU;have HUB:=J hub;have HND:=J hnd;have HUN:=J huN;have HF:=J F;have h2:=F.two;obtain ⟨un,hune⟩:=exq (us.length);obtain ⟨u2,hu2⟩:=exq (2*un);obtain ⟨t0,ht0⟩:=exq (u2-2);have e1:IntKind.i64.wrap (2*(un:Int))=u2:=by rw [IntKind.wrap_i64];omega
 have E2:=J (show IntKind.i64.wrap ((u2:Int)-2)=t0 by rw [IntKind.wrap_i64];omega);have e2:=E2.out;have HT0:Hid (t0=stk cs (k-1) 0):=J (by rw [stk];omega);have HUE:=J hune;rw [←hune];clear hrow hrl hA hU hub hnd huN F hune hu2 ht0;refine (callsIn_wide (n:=9)).1 ?_;refine callsIn_of_wp_marks func177 rfl trivial ?_ rfl;simp only [ntmps177,List.size_toArray,List.length_cons,List.length_nil,Nat.reduceAdd,Nat.reduceSub,Array.replicate_succ,Array.replicate_zero,List.push_toArray,List.append_toArray,List.nil_append,List.cons_append];gi_wp2_with (refine ⟨trivial,?_⟩;gi_at_call 189;refine (callsIn_wide.2 (QM (some ⟨g5,0,none⟩) k c5 _)).mono ?_;rintro e w' ⟨rfl,rfl⟩)
 clear e1 e2;obtain ⟨bL,hbL⟩:=exq (w.heap.size);have HBL:=J hbL;have b1:=Blk.made w 40 #[.slice (some ⟨gl,0,none⟩) N N];have b2:=Blk.made (w.alloc (.cells #[.slice (some ⟨gl,0,none⟩) N N] 40)) 40 #[.slice bo un cu];have b3:=Blk.made ((w.alloc (.cells #[.slice (some ⟨gl,0,none⟩) N N] 40)).alloc (.cells #[.slice bo un cu] 40)) 3 #[.int .i64 t0];have b4:=Blk.made (((w.alloc (.cells #[.slice (some ⟨gl,0,none⟩) N N] 40)).alloc (.cells #[.slice bo un cu] 40)).alloc (.cells #[.int .i64 t0] 3)) 234 #[.slice (some ⟨g5,0,none⟩) k c5];have tA:∀ (W:World) (o:Obj),Touch (fun _=>False) W (W.alloc o):=fun W o=>(Touch.refl _ W).alloc o
 have c1:=((b1.touch (tA _ (.cells #[.slice bo un cu] 40)) (fun h=>h)).touch (tA _ (.cells #[.int .i64 t0] 3)) (fun h=>h)).touch (tA _ (.cells #[.slice (some ⟨g5,0,none⟩) k c5] 234)) (fun h=>h);have c2:=(b2.touch (tA _ (.cells #[.int .i64 t0] 3)) (fun h=>h)).touch (tA _ (.cells #[.slice (some ⟨g5,0,none⟩) k c5] 234)) (fun h=>h);have c3:=b3.touch (tA _ (.cells #[.slice (some ⟨g5,0,none⟩) k c5] 234)) (fun h=>h);simp only [World.size_alloc,←hbL] at c1 c2 c3 b4;have TW:Touch (fun _=>False) w ((((w.alloc (.cells #[.slice (some ⟨gl,0,none⟩) N N] 40)).alloc (.cells #[.slice bo un cu] 40)).alloc (.cells #[.int .i64 t0] 3)).alloc (.cells #[.slice (some ⟨g5,0,none⟩) k c5] 234)):=(((tA _ _).trans (tA _ _)).trans (tA _ _)).trans (tA _ _);have hsz:((((w.alloc (.cells #[.slice (some ⟨gl,0,none⟩) N N] 40)).alloc (.cells #[.slice bo un cu] 40)).alloc (.cells #[.int .i64 t0] 3)).alloc (.cells #[.slice (some ⟨g5,0,none⟩) k c5] 234)).heap.size=bL+4:=by rw [hbL];simp
 rw [←hbL];obtain ⟨W0,hW0⟩:∃ W0,(((w.alloc (.cells #[.slice (some ⟨gl,0,none⟩) N N] 40)).alloc (.cells #[.slice bo un cu] 40)).alloc (.cells #[.int .i64 t0] 3)).alloc (.cells #[.slice (some ⟨g5,0,none⟩) k c5] 234)=W0:=⟨_,rfl⟩;rw [hW0] at c1 c2 c3 b4 TW hsz ⊢;clear hW0 b1 b2 b3 tA;obtain ⟨nm,hnm⟩:=exq (⟨bL,bL+1,bL+1+1,gl,N,bo,cu,k,rs⟩:Nm);have hgl:=HA.out.lt;have AP:Hid (Apart nm w us):=J (by
  subst hnm;exact ⟨hgl,⟨by show w.heap.size≤bL;omega,by show w.heap.size≤bL+1;omega,by show w.heap.size≤bL+1+1;omega⟩,⟨by show bL≠bL+1+1;omega,by show bL+1≠bL+1+1;omega⟩,fun b off e hne=>HUB.out b off e hne,fun j b off hj e=>(HRL.out j hj).2.2.2 b off e⟩)
 have hT2:Touch (fun _=>False) w W0:=TW;have hI0:Lst nm w cs us t0 (fun _=>0) W0:=by
  subst hnm;refine ⟨c1,?_,c3,HA.out.touch TW (fun h=>h),HU.out.touch TW (fun _ _ _ _ h=>h),fun j hj=>(HRL.out j hj).2.2.1.touch TW (fun _ _ _ _ h=>h),TW.mono (fun _ h=>h.elim)⟩;rw [←HUE.out];exact c2
 refine zeE (by omega) (gf:=195) (lb := #[.pointer (some ⟨bL+1+1+1,0,none⟩)]) rfl (enters_of func195 (by kernel_rfl) rfl)
  (zbG (fun b=>b=gl∨b=bL+1+1) (9-1) (by omega) (bL+1+1+1) g5 c5 k rs hk W0 (b4.cell 0) (by omega) (fun j hj=>(World.cell?_of_block (TW.block g5 hg5 (fun h=>h))).trans (HROW.out j hj)) (Nat.lt_of_lt_of_le hg5 TW.size) (by omega)) (fun h k=>h.trans k) (zjJ (Nat.le_refl _)) (fun _=>rfl)
  (fun pre X=>Lst nm w cs us (stk cs (k-1) pre.length) (LF us (gl' cs (k-1) pre.length)) X∧bL+4≤X.heap.size)
  (by rw [hsz];exact OwnFrom.and (zi6 nm w cs us (fun pre=>stk cs (k-1) pre.length) (fun pre=>LF us (gl' cs (k-1) pre.length)) (bL+4) (by omega)) (fun s A B row hs hg hr=>Nat.le_trans hs hg.size))
  (by
    rw [HT0.out] at hI0;have e:LF us (gl' cs (k-1) 0)=fun _=>0:=by funext s;unfold LF;simp [zik]
    rw [List.length_nil,e];exact ⟨hI0,by omega⟩)
  (fun x=>{ tmps := #[.slice (some ⟨gl,0,none⟩) N N,.slice bo un cu,.slice (some ⟨g5,0,none⟩) k c5,.pointer (some ⟨bL,0,none⟩),.pointer (some ⟨bL+1,0,none⟩),undef,.pointer (some ⟨bL+1+1,0,none⟩),undef,sv x.2,undef,undef,undef,.slice bo un cu,.int .i64 un,.int .i64 u2,.int .i64 t0,.slice (some ⟨g5,0,none⟩) k c5,.func (.func 195) #[] #[.pointer (some ⟨bL+1+1+1,0,none⟩)],.int .i64 (x.1:Nat),sv x.2,undef,undef,undef,undef,undef,undef,undef,undef,undef,undef,undef,undef,undef,undef,undef,undef,undef,undef,undef,undef,undef,undef,undef,undef,undef,undef],defers:=[] }) ?assign ?body ?done
 case assign=>
  rintro l ⟨q,x1,x2,x3⟩ X K hK;have HKx:=J hK;clear hK hbL hsz c1 c2 c3 b4 TW hT2 hI0;simp only [zhJ,sv] at HKx ⊢;gi_wp2
  exact HKx.out
 case body=>
  rintro l pre ⟨q,x1,x2,x3⟩ X ⟨hI,hXs⟩ hx;have hp:pre.length<k:=by
   have:=(List.getElem?_eq_some_iff.1 hx).1;rwa [Qm] at this
  rw [zgr k rs _ hp] at hx;obtain ⟨p,hpe⟩:=exq (pre.length);rw [←hpe] at hx hp hI;obtain ⟨j,hj⟩:=exq (k-1-p);rw [←hj] at hx;have hx0:=Option.some.inj hx;have hq0:j=q:=congrArg Prod.fst hx0;have hx':rs j=(x1,x2,x3):=congrArg Prod.snd hx0;have hrj:=HRL.out j (by omega);rw [hx'] at hrj;obtain ⟨hr1,hr2,_,_⟩:=hrj;simp only at hr1 hr2;obtain ⟨r,hre⟩:=exq (row cs j);obtain ⟨tk,htk⟩:=exq (stk cs (k-1) p);have htl:tk≤r.length:=by rw [htk,hre,hj];exact zln HF.out p (by omega)
  have hrs:r.length≤640:=by rw [hre];exact Qc cs hcl j
  have hone:∀ i,i≤r.length→qm r i≤cs.length:=fun i hi=>by rw [hre] at hi ⊢;exact ke HF.out.up j i hi
  have HONE:=J hone;have HMS:Hid (qm r tk=mss cs (k-1) p):=J (by rw [mss,←htk,hre,hj]);have HTK:=J htk;have HRE:=J hre;have HJ:Hid (j<k):=J (by omega);have HXX:=J hx';have HPE:=J hpe;have hcap:tk≤x3:=by rw [hre] at htl;omega
  rw [←htk] at hI;obtain ⟨G,hG⟩:=exq (gl' cs (k-1) p);have hGle:∀ i,G i≤15:=fun i=>by rw [hG];exact Nat.le_trans (zlJ _ _ _ _) (by omega)
  have HGL:=J hGle;have HG:=J hG;rw [←hG] at hI;have HI0:Hid (Lst nm w cs us tk (LF us (fun u=>G u+if u<0 then 1 else 0)) X):=J (by rw [zhB];exact hI);have hsl:=zc0 x1 x2 x3 tk hcap;have HNM:=J hnm;have HSZ:=J hsz;have g1:X.cell? ⟨bL+1+1,0,none⟩=some (.int .i64 tk):=by have:=hI.T;rw [hnm] at this;exact (this.cell 0).trans rfl
  clear hx hx0 hx' hq0 hr1 hr2 hre htk hone hpe hj hG hGle hnm hsz hbL c1 c2 c3 b4 TW hT2 hI0 hI HT0 E2;simp only [sv];gi_wp2
  gi_loopw [9,24] (fun s9 s24 wr=>∃ i m:Nat,s9=.int .i64 m∧s24=.int .i64 i∧i≤tk∧m=qm r i∧Lst nm w cs us tk (LF us (fun u=>G u+if u<m then 1 else 0)) wr∧KeepsFrom W0.heap.size X wr∧Beb (fun b=>b=gl∨b=bL+1+1) W0.heap.size X wr) (fun _ s24 _=>tk-(intOf s24).toNat)
  case atStart=>exact ⟨0,0,rfl,rfl,Nat.zero_le _,(js r).symm,HI0.out,KeepsFrom.refl _ _,Beb.refl _ _ _⟩
  case round=>
   obtain ⟨i,m,rfl,rfl,hi,hm,hL,hkf,hbb⟩:=hrel;have HM:=J hm;have HLL:=J hL;have HKF:=J hkf;have HBB:=J hbb;have hwr:bL+4≤wr.heap.size:=Nat.le_trans hXs hkf.size;by_cases hlt:i<tk
   ·have hlt':(i:Int)<tk:=by omega
    have hrow':=hL.rows j (by rw [HNM.out];exact HJ.out);rw [HNM.out] at hrow';simp only [HXX.out] at hrow';rw [←HRE.out] at hrow';obtain ⟨b1,o1,rfl,q1,q2⟩:=hrow'.at (k:=i) (by omega);obtain ⟨x,hx⟩:=exq (cn' r i);have hos:=zeq r i (by omega);rw [←hx] at q1 q2 hos;obtain ⟨y1,y2⟩:=x;simp only at q1 q2 hos;have HOS:=J hos;have hmn:y2=true→m<us.length:=fun e=>by
     have h3:=HONE.out (i+1) (by omega);rw [hos,e,←hm] at h3;simp at h3;omega
    have HMN:=J hmn;clear hos hmn hx hm hL hkf hbb hrow' HI0 HONE;cases y2 with
    | false=>
     gi_wp2
     go_roundw;case rel=>
      have h3:=HOS.out;simp at h3;exact ⟨i+1,m,rfl,by go_num,by omega,by rw [h3];exact HM.out,HLL.out.alloc _,HKF.out.trans ((KeepsOthers.alloc wr _).from _),HBB.out.trans (kV wr (by rw [HSZ.out];exact hwr) _)⟩
     case measure=>first | (simp [intOf];done) | (simp [intOf];omega)
    | true=>
     have hmu:=HMN.out rfl;gi_wp2
     have H1:=J (HLL.out.alloc (.cells #[.int .i64 (y1:Nat),.bool true] 248));have HF1:=J (HKF.out.trans ((KeepsOthers.alloc wr (.cells #[.int .i64 (y1:Nat),.bool true] 248)).from _));have HB1:=J (HBB.out.trans (kV (S:=fun b=>b=gl∨b=bL+1+1) (n:=W0.heap.size) wr (by rw [HSZ.out];exact hwr) (.cells #[.int .i64 (y1:Nat),.bool true] 248)));have hw1:bL+4≤(wr.alloc (.cells #[.int .i64 (y1:Nat),.bool true] 248)).heap.size:=by rw [World.size_alloc];omega
     clear HLL HKF HBB q1 q2;generalize wr.alloc (.cells #[.int .i64 (y1:Nat),.bool true] 248)=W1 at H1 HF1 HB1 hw1 ⊢;have k1:W1.cell? ⟨bL,0,none⟩=some (.slice (some ⟨gl,0,none⟩) N N):=by have:=H1.out.L;rw [HNM.out] at this;exact (this.cell 0).trans rfl
     have k2:W1.cell? ⟨bL+1,0,none⟩=some (.slice bo us.length cu):=by have:=H1.out.U;rw [HNM.out] at this;exact (this.cell 0).trans rfl
     have k2s:Hid (IS W1 bo (ints us)):=J (by have:=H1.out.us;rw [HNM.out] at this;exact this);obtain ⟨b2,o2,rfl,k3⟩:=k2s.out.nat hmu;obtain ⟨u,hu⟩:=exq (us.getD m 0);have huN:u<N:=by rw [hu];refine HUN.out _ ?_;rw [List.getD_eq_getElem?_getD,List.getElem?_eq_getElem hmu];exact List.getElem_mem hmu
     have HUU:=J hu;rw [←hu] at k3;clear hu;have hA1:Blk W1 gl 3 (ia N (LF us fun u=>G u+if u<m then 1 else 0)):=by have:=H1.out.A;rw [HNM.out] at this;exact this
     obtain ⟨fu,hfu⟩:=exq (LF us (fun u=>G u+if u<m then 1 else 0) u);have k4:=(hA1.cell u).trans (zw N _ u huN);have k5:=hA1.free u;rw [←hfu] at k4;have hfl:fu≤16:=by
      rw [hfu];unfold LF;split
      ·have:=HGL.out (us.idxOf u)
       show G (us.idxOf u)+(if us.idxOf u<m then 1 else 0)≤16;split <;> omega
      ·omega
     have HFU:=J hfu;have c1:(m:Int)<us.length:=by omega
     have c2:(u:Int)<N:=by omega
     have e1:IntKind.i64.wrap ((fu:Int)+1)=((fu+1:Nat):Int):=by rw [IntKind.wrap_i64];omega
     obtain ⟨f1,hf1⟩:=exq (fu+1);rw [←hf1] at e1;have HF1':=J hf1;have hmix:prog.follows .mixedOrders=true:=by kernel_rfl
     have H2:Hid (Lst nm w cs us tk (LF us (fun u=>G u+if u<m+1 then 1 else 0)) ((W1.setCell ⟨gl,u,none⟩ (.int .i64 (f1:Nat))).drew)):=J (by
      have hput:∀ s,s<nm.N→LF us (fun u=>G u+if u<m+1 then 1 else 0) s=if s=u then f1 else LF us (fun u=>G u+if u<m then 1 else 0) s:=fun s _=>by
       rw [zll HND.out G hmu s,←HUU.out,hf1,hfu];by_cases hs:s=u
       ·rw [if_pos hs,if_pos hs,hs]
       ·rw [if_neg hs,if_neg hs]
      have h:=(H1.out.setA AP.out u f1 _ hput).drew;rw [HNM.out] at h ⊢;exact h)
     have HF2:Hid (KeepsFrom W0.heap.size X ((W1.setCell ⟨gl,u,none⟩ (.int .i64 (f1:Nat))).drew)):=J (HF1.out.trans (((KeepsOthers.setCell W1 _ _).trans (KeepsOthers.drew _)).from _));have HB2:Hid (Beb (fun b=>b=gl∨b=bL+1+1) W0.heap.size X ((W1.setCell ⟨gl,u,none⟩ (.int .i64 (f1:Nat))).drew)):=J (HB1.out.trans (zcz W1 (.inl rfl) _ _).drew);clear hfu hf1 hA1 H1 HF1 HB1 hmu;gi_region_with_o (fail)
     generalize (W1.setCell ⟨gl,u,none⟩ (.int .i64 (f1:Nat))).drew=W2 at H2 HF2 HB2 ⊢;all_goals
      gi_wp2
      go_roundw;case rel=>
       have h3:=HOS.out;simp at h3;exact ⟨i+1,m+1,by go_num,by go_num,by omega,by rw [h3,←HM.out],H2.out,HF2.out,HB2.out⟩
      case measure=>first | (simp [intOf];done) | (simp [intOf];omega)
   ·have hie:i=tk:=by omega
    subst hie;have q0:wr.cell? ⟨bL+1+1,0,none⟩=some (.int .i64 i):=by have:=hL.T;rw [HNM.out] at this;exact (this.cell 0).trans rfl
    have q00:wr.frozen? ⟨bL+1+1,0,none⟩=false:=by have:=hL.T;rw [HNM.out] at this;exact this.free 0
    have hmi:m≤i:=by rw [hm];exact zch _ _
    obtain ⟨d1,hd1⟩:=exq (i-m);obtain ⟨d2,hd2⟩:=exq (2*d1);have e1:IntKind.i64.wrap ((i:Int)-m)=d1:=by rw [IntKind.wrap_i64];omega
    have E2:=J (show IntKind.i64.wrap (2*(d1:Int))=d2 by rw [IntKind.wrap_i64];omega);have e2:=E2.out;have HDD:=J (And.intro hd1 hd2);clear hd1 hd2 hm hL hkf hbb;gi_wp2
    have hms:m=mss cs (k-1) p:=by rw [←HMS.out];exact HM.out
    have hst:d2=stk cs (k-1) (p+1):=by
     rw [show stk cs (k-1) (p+1)=2*(stk cs (k-1) p-mss cs (k-1) p) from rfl,←HTK.out,←hms,HDD.out.2,HDD.out.1]
    have hLL:LF us (fun u=>G u+if u<m then 1 else 0)=LF us (gl' cs (k-1) (p+1)):=by
     congr 1
     funext u
     rw [zjs,←HG.out,←hms]
    have hfin:=HLL.out.setT AP.out d2;have hbT:nm.bT=bL+1+1:=by rw [HNM.out]
    rw [hbT,hLL,hst] at hfin;refine ⟨HKF.out.trans ((KeepsOthers.setCell wr _ _).from _),HBB.out.trans (zcz wr (.inr rfl) _ _),?_⟩;have hlen1:(pre++[(q,x1,x2,x3)]).length=p+1:=by rw [List.length_append,List.length_singleton,←HPE.out]
    have hsz2:bL+4≤(wr.setCell ⟨bL+1+1,0,none⟩ (.int .i64 (d2:Nat))).heap.size:=Nat.le_trans hwr (by simp [World.setCell]);rw [←HPE.out,hst];rw [hst] at hsz2;first | exact ⟨hfin,hsz2⟩ | exact hfin
 case done=>
  rintro D X hD ⟨hI,_⟩ hK;rw [Qm] at hI;gi_wp2
  have hg:=grownBy_putObj' X D (.deferred none);have hr:∀ r,some D=some r→∃ o:Obj,X.heap[r]? = some o∧o.isCells=false:=fun r e=>by cases e;exact ⟨_,hK,rfl⟩
  refine ⟨by simp,.inl ⟨_,_,rfl,run_takeDeferred hK,?_⟩⟩;have e:LF us (gl' cs (k-1) k)=LF us (la (top cs (k-1))):=by
   congr 1
   funext i
   rw [zjC,gl',show k-1+1=k by omega]
  have hA2:=xD hI.A hg hr;rw [e] at hA2;subst hnm;refine ⟨_,results_none rfl _ _ _,rfl,hA2,hI.tch.grown hg fun k e=>?_⟩;cases e;right;omega
end
section
open Go.Lib renaming hid → J
open Go.RowKit
theorem uu (x:Int) (w:World):Calls prog 147 #[.int .i64 x] w fun e w'=>e=.returned (.bool false)∧w'=w:=by
 have hn:(x != x)=false:=by simp
 go_enter func147,ntmps147;go_wp2;go_ret;exact ⟨rfl,rfl⟩
def ci (x y:Int):Int:=if x<y then -1 else if x>y then 1 else 0
theorem zkl (x y:Int):decide (ci x y<0)=decide (x<y):=by
 unfold ci;by_cases h:x<y
 ·simp [h]
 ·by_cases h2:x>y
  ·simp [h,h2]
  ·simp [h,h2]
theorem XS (x y:Int) (w:World):Calls prog 188 #[.int .i64 x,.int .i64 y] w fun e w'=>e=.returned (.int .i64 (ci x y))∧w'=w:=by
 have E:=J (show ci x y=if x<y then -1 else if x>y then 1 else 0 from rfl);by_cases h:x<y
 ·rw [if_pos h] at E
  go_enter func188,ntmps188;go_wp2_with (go_at_call 147;(refine (uu _ _).mono ?_);rintro e w' ⟨rfl,rfl⟩);go_ret;exact ⟨qy E.out.symm,rfl⟩
 ·rw [if_neg h] at E
  have h':y≤x:=by omega
  by_cases h2:x>y
  ·rw [if_pos h2] at E
   go_enter func188,ntmps188;go_wp2_with (go_at_call 147;(refine (uu _ _).mono ?_);rintro e w' ⟨rfl,rfl⟩);go_ret;exact ⟨qy E.out.symm,rfl⟩
  ·rw [if_neg h2] at E
   have h2':x≤y:=by omega
   go_enter func188,ntmps188;go_wp2_with (go_at_call 147;(refine (uu _ _).mono ?_);rintro e w' ⟨rfl,rfl⟩);go_ret;exact ⟨qy E.out.symm,rfl⟩
theorem zgO (cx g co c n:Nat) (kx ky:Int) (x y:Nat) (hx:x<n) (hy:y<n) (w:World)
  (h0:w.cell? ⟨cx,0,none⟩=some (.slice (some ⟨g,co,none⟩) n c))
  (h1:w.cell? ⟨g,co+x,none⟩=some (.int .i64 kx)) (h2:w.cell? ⟨g,co+y,none⟩=some (.int .i64 ky)) :
  Calls prog 187 #[.int .i64 x,.int .i64 y,.pointer (some ⟨cx,0,none⟩)] w fun e w'=>e=.returned (.int .i64 (ci kx ky))∧∃ q,w'=w.drewN q:=by
 have hx':(x:Int)<n:=by omega
 have hy':(y:Int)<n:=by omega
 go_enter func187,ntmps187;go_wp2;go_quiet ((go_at_call 188;exact Calls.quiet_of_same (XS _ _ _)))
 go_wp2;go_ret;exact ⟨rfl,_,rfl⟩
def Cmp (key:Nat→Int) (N cx b:Nat) (w0:World):Prop:=N≤1024∧
 ∀ W,Touch (fun k=>k=b) w0 W→∀ x y,x<N→y<N→Calls prog 187 #[.int .i64 (x:Nat),.int .i64 (y:Nat),.pointer (some ⟨cx,0,none⟩)] W fun e w'=>e=.returned (.int .i64 (ci (key x) (key y)))∧∃ q,w'=W.drewN q
structure Srt (w0:World) (b N:Nat) (d:Array Nat) (W:World):Prop where
 cell:∀ i,i<d.size→W.cell? ⟨b,i,none⟩=some (.int .i64 (d[i]! : Nat))
 free:∀ i,i<d.size→W.frozen? ⟨b,i,none⟩=false
 touch:Touch (fun k=>k=b) w0 W
 hb:b<w0.heap.size
 lt:∀ i,i<d.size→d[i]! < N
theorem Srt.drewN {w0 W:World}{b N:Nat}{d:Array Nat}(h:Srt w0 b N d W) (q:Nat):Srt w0 b N d (W.drewN q):=⟨h.cell,h.free,h.touch.drewN q,h.hb,h.lt⟩
theorem Srt.drew {w0 W:World}{b N:Nat}{d:Array Nat}(h:Srt w0 b N d W):Srt w0 b N d W.drew:=⟨h.cell,h.free,h.touch.drew,h.hb,h.lt⟩
open Go.Sort in
theorem Srt.swap {w0 W:World}{b N:Nat}{d:Array Nat}(h:Srt w0 b N d W) (i j:Nat) (hi:i<d.size) (hj:j<d.size) :
  Srt w0 b N (swp d i j) ((W.setCell ⟨b,i,none⟩ (.int .i64 (d[j]! : Nat))).setCell ⟨b,j,none⟩ (.int .i64 (d[i]! : Nat))):=by
 have ne:∀ p q:Nat,p≠q→(⟨b,p,none⟩:Addr)≠⟨b,q,none⟩:=fun p q h e=>by simp only [Addr.mk.injEq] at e;omega
 refine ⟨fun k hk=>?_,fun k hk=>?_,(h.touch.setCell _ _ (.inl rfl)).setCell _ _ (.inl rfl),h.hb,fun k hk=>?_⟩
 ·rw [size_swp] at hk
  rw [swp_get d hi hj];by_cases e1:k=j
  ·subst e1
   rw [if_pos rfl];by_cases e2:k=i
   ·subst e2
    exact World.cell?_setCell_same _ _ _ (World.cell?_setCell_same _ _ _ (h.cell k hk))
   ·exact World.cell?_setCell_same _ _ _ ((World.cell?_setCell_other _ _ _ _ (ne _ _ (Ne.symm e2))).trans (h.cell k hk))
  ·rw [if_neg e1,World.cell?_setCell_other _ _ _ _ (ne _ _ (Ne.symm e1))]
   by_cases e2:k=i
   ·subst e2
    rw [if_pos rfl];exact World.cell?_setCell_same _ _ _ (h.cell k hk)
   ·rw [if_neg e2,World.cell?_setCell_other _ _ _ _ (ne _ _ (Ne.symm e2))]
    exact h.cell k hk
 ·rw [size_swp] at hk
  rw [World.frozen?_setCell,World.frozen?_setCell];exact h.free k hk
 ·rw [size_swp] at hk
  rw [swp_get d hi hj];split
  ·exact h.lt i hi
  ·split
   ·exact h.lt j hj
   ·exact h.lt k hk
theorem Srt.two {w0 W:World}{b N:Nat}{d:Array Nat}(h:Srt w0 b N d W) (i j:Nat) (hi:i<d.size) (hj:j<d.size) (v:Value):∃ u,(W.setCell ⟨b,i,none⟩ v).cell? ⟨b,j,none⟩=some u:=by
 by_cases e:i=j
 ·subst e;exact ⟨v,World.cell?_setCell_same _ _ _ (h.cell i hi)⟩
 ·exact ⟨_,(World.cell?_setCell_other _ _ _ _ (by intro e';simp only [Addr.mk.injEq] at e';omega)).trans (h.cell j hj)⟩
end
end Go.Proofs.YtacpfpghokcdlaaGreatDoor.Y
