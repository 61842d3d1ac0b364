/- Part 26. -/
import Derived.Test.YtacpfpghokcdlaaGreatDoorXB25
open Go.Proofs.Tryz
namespace Go.Proofs.YtacpfpghokcdlaaGreatDoor
set_option maxRecDepth 100000
section
open Go.Lib renaming hid → J
open Go.RowKit
def fV (r:List Tok) (k:Nat) (y:Nat):Value:=.int .i64 (cntF (r.take k) y:Nat)
def oV (r:List Tok) (k:Nat) (y:Nat):Value:=.int .i64 (vK (r.take k) y:Nat)
theorem zii (r:List Tok):va (286*1) (fun i=>(Value.int .i64 0).cells[i%(Value.int .i64 0).cells.size]!)=va 286 (fV r 0):=by
 refine zq fun i _=>?_
 have hc:(Value.int .i64 0).cells = #[.int .i64 0]:=rfl;rw [hc];unfold fV;rw [List.take_zero];simp [Nat.mod_one,cntF]
theorem zio (r:List Tok):va (30*1) (fun i=>(Value.int .i64 0).cells[i%(Value.int .i64 0).cells.size]!)=va 30 (oV r 0):=by
 refine zq fun i _=>?_
 have hc:(Value.int .i64 0).cells = #[.int .i64 0]:=rfl;rw [hc];unfold oV;rw [List.take_zero];simp [Nat.mod_one,vK]
theorem zdG (r:List Tok) (t:Tok) (y:Nat):cntF (r++[t]) y=cntF r y+if fsy t=y then 1 else 0:=by
 unfold cntF;rw [List.countP_append,List.countP_singleton];simp only [decide_eq_true_eq]
theorem KE (r:List Tok) (t:Tok) (y:Nat):vK (r++[t]) y=vK r y+if t.len≠0∧dsy t.dist=y then 1 else 0:=by
 unfold vK;rw [List.countP_append,List.countP_singleton];simp only [decide_eq_true_eq]
theorem zhu {r:List Tok}{k:Nat}{t:Tok}(hk:r.take (k+1)=r.take k++[t]) (u:Value) (hu:u=.int .i64 ((cntF (r.take k) (fsy t):Nat)+1:Int)):(va 286 (fV r k)).setIfInBounds (fsy t) u=va 286 (fV r (k+1)):=by
 rw [qF];refine zq fun y _=>?_
 unfold fV;rw [hk,zdG];by_cases e:y=fsy t
 ·rw [if_pos e,hu,if_pos e.symm,e];congr 1
 ·rw [if_neg e,if_neg (Ne.symm e),Nat.add_zero]
theorem zkO {r:List Tok}{k:Nat}{t:Tok}(h0:t.len≠0) (hk:r.take (k+1)=r.take k++[t]) (u:Value) (hu:u=.int .i64 ((vK (r.take k) (dsy t.dist):Nat)+1:Int)):(va 30 (oV r k)).setIfInBounds (dsy t.dist) u=va 30 (oV r (k+1)):=by
 rw [qF];refine zq fun y _=>?_
 unfold oV;rw [hk,KE];by_cases e:y=dsy t.dist
 ·rw [if_pos e,hu,if_pos ⟨h0,e.symm⟩,e];congr 1
 ·rw [if_neg e,if_neg (fun h=>e h.2.symm),Nat.add_zero]
theorem zjt {r:List Tok}{k:Nat}{t:Tok}(h0:t.len=0) (hk:r.take (k+1)=r.take k++[t]):va 30 (oV r k)=va 30 (oV r (k+1)):=by
 refine zq fun y _=>?_
 unfold oV;rw [hk,KE,if_neg (fun h=>h.1 h0),Nat.add_zero]
structure CnA (w:World) (f1 f2:Nat) (F O:Nat→Value):Prop where
 f:Blk w f1 3 (va 286 F)
 o:Blk w f2 3 (va 30 O)
 ne:f1≠f2
structure Cnw (w:World) (q0 nb f1 f2:Nat) (F O:Nat→Value) (wr:World):Prop where
 c:CnA wr f1 f2 F O
 n:Blk wr nb 141 #[.slice (some ⟨f1,0,none⟩) 286 286,.slice (some ⟨f2,0,none⟩) 30 30]
 r:Blk wr q0 141 #[.slice none 0 0,.slice none 0 0]
 lo:w.heap.size≤q0∧w.heap.size≤nb∧w.heap.size≤f1∧w.heap.size≤f2
 ne:q0≠nb
 b:Below w.heap.size w wr
theorem qg {w:World}{a b:Nat}{s t:TypeId}{cs ds:Array Value}(h:Blk w a s cs) (k:Blk w b t ds) (hn:s≠t):a≠b:=fun e=>by
 subst e;rw [Blk] at h k;rw [h] at k;simp at k;exact hn k.2
theorem Cnw.grow {w wr w1:World}{q0 nb f1 f2:Nat}{F O:Nat→Value}(h:Cnw w q0 nb f1 f2 F O wr) (hb:Below wr.heap.size wr w1):Cnw w q0 nb f1 f2 F O w1:=
 ⟨⟨h.c.f.below hb,h.c.o.below hb,h.c.ne⟩,h.n.below hb,h.r.below hb,h.lo,h.ne,h.b.on hb⟩
theorem yC {w wr:World}(h:Below w.heap.size w wr){b i:Nat}(hb:w.heap.size≤b) (u:Value):Below w.heap.size w (wr.setCell ⟨b,i,none⟩ u):=by
 have h3:Touch (fun k=>w.heap.size≤k) w wr:=(Touch.of_below h:Touch (fun _=>False) w wr).mono fun _ h=>h.elim
 exact (h3.setCell ⟨b,i,none⟩ u (.inr hb)).below (Nat.le_refl _) fun k h=>h
theorem Cnw.setF {w wr:World}{q0 nb f1 f2:Nat}{F O:Nat→Value}(h:Cnw w q0 nb f1 f2 F O wr){i:Nat}{u:Value}{F':Nat→Value}(hF:(va 286 F).setIfInBounds i u=va 286 F'):Cnw w q0 nb f1 f2 F' O (wr.setCell ⟨f1,i,none⟩ u):=
 ⟨⟨by rw [←hF];exact h.c.f.setCell i u,h.c.o.other i u h.c.ne,h.c.ne⟩,h.n.other i u (qg h.c.f h.n (by decide)),h.r.other i u (qg h.c.f h.r (by decide)),h.lo,h.ne,yC h.b h.lo.2.2.1 u⟩
theorem Cnw.setO {w wr:World}{q0 nb f1 f2:Nat}{F O:Nat→Value}(h:Cnw w q0 nb f1 f2 F O wr){i:Nat}{u:Value}{O':Nat→Value}(hO:(va 30 O).setIfInBounds i u=va 30 O'):Cnw w q0 nb f1 f2 F O' (wr.setCell ⟨f2,i,none⟩ u):=
 ⟨⟨h.c.f.other i u h.c.ne.symm,by rw [←hO];exact h.c.o.setCell i u,h.c.ne⟩,h.n.other i u (qg h.c.o h.n (by decide)),h.r.other i u (qg h.c.o h.r (by decide)),h.lo,h.ne,yC h.b h.lo.2.2.2 u⟩
theorem zcS (w1:World) (cs:Array Value) (t:TypeId) (B C:Obj):Blk (((w1.alloc (.cells cs t)).alloc B).alloc C) w1.heap.size t cs:=((Blk.made w1 t cs).more B).more C
theorem zbU (w1:World) (cs:Array Value) (t:TypeId) (A C:Obj):Blk (((w1.alloc A).alloc (.cells cs t)).alloc C) (w1.heap.size+1) t cs:=by
 have:=(Blk.made (w1.alloc A) t cs).more C;rwa [qR] at this
theorem zbR (w1:World) (cs:Array Value) (t:TypeId) (A B:Obj):Blk (((w1.alloc A).alloc B).alloc (.cells cs t)) (w1.heap.size+1+1) t cs:=by
 have:=Blk.made ((w1.alloc A).alloc B) t cs;rwa [qR,qR] at this
theorem zmv {w w1:World}{q0 nb f1 f2:Nat}{F O:Nat→Value}(hB:Below w.heap.size w w1) (hR:Blk w1 q0 141 #[.slice none 0 0,.slice none 0 0]∧w.heap.size≤q0) (A B C:Obj)
  (hn:Blk (((w1.alloc A).alloc B).alloc C) nb 141 #[.slice (some ⟨f1,0,none⟩) 286 286,.slice (some ⟨f2,0,none⟩) 30 30]) (hf:Blk (((w1.alloc A).alloc B).alloc C) f1 3 (va 286 F)) (ho:Blk (((w1.alloc A).alloc B).alloc C) f2 3 (va 30 O)) (hne:w1.heap.size≤nb∧w1.heap.size≤f1∧w1.heap.size≤f2∧f1≠f2) :
  Cnw w q0 nb f1 f2 F O ((((w1.alloc A).alloc B).alloc C).drew):=by
 have hs:=hB.size;have hq:=hR.1.lt;have hb:Below w1.heap.size w1 (((w1.alloc A).alloc B).alloc C):=((Below.refl _ _).alloc (Nat.le_refl _) A).on (((Below.refl _ _).alloc (Nat.le_refl _) B).on ((Below.refl _ _).alloc (Nat.le_refl _) C));exact ⟨⟨hf,ho,hne.2.2.2⟩,hn,hR.1.below (hb.on (zf _)),⟨hR.2,by omega,by omega,by omega⟩,by omega,(hB.on hb).on (zf _)⟩
theorem JP (n:Nat) (hn:n≤1000) (W:World):(Instr.makeSlice 40 (.int .i64 n) (.int .i64 n)).run prog W=.ok (.slice (some ⟨W.heap.size,0,none⟩) n n) (W.alloc (.cells (va (n*1) (fun i=>(Value.int .i64 0).cells[i%(Value.int .i64 0).cells.size]!)) 3)):=by
 obtain ⟨i,hi,hz0,hz1,hz2⟩:=info_parts (show (prog.info? 3).map (fun i=>(i.zero,i.size,i.bytes))=some (some (.int .i64 0),1,8) by kernel_rfl)
 have hr:=run_make (P:=prog) W 40 3 i (.int .i64 0) underlying40 hi hz0 .i64 .i64 n n (by omega) (Int.le_refl _) (by rw [hz2];omega) (by omega);rw [Int.toNat_natCast,hz1,vF] at hr;exact hr
theorem XC (x y z:Nat) (W:World):(Instr.field 174 (.agg #[.int .i64 (x:Nat),.int .i64 (y:Nat),.int .i64 (z:Nat)]) 0).run prog W=.ok (.int .i64 (x:Nat)) W:=by kernel_rfl
theorem RgA.set {w:World}{b n first q:Nat}{B X:List Nat}(h:RgA w b n first B X){t:TypeId}{cs:Array Value}(hq:Blk w q t cs) (ht:t≠174) (i:Nat) (u:Value):RgA (w.setCell ⟨q,i,none⟩ u) b n first B X:=by
 obtain ⟨ds,h1,h2⟩:=h;exact ⟨ds,h1.other i u (qg hq h1 ht),h2⟩
theorem PkA.set {w:World}{pk pw lb db lc dc q:Nat}(h:PkA w pk pw lb db lc dc){t:TypeId}{cs:Array Value}(hq:Blk w q t cs) (ht:t≠174∧t≠91) (i:Nat) (u:Value):PkA (w.setCell ⟨q,i,none⟩ u) pk pw lb db lc dc:=by
 obtain ⟨ds,h1,h2⟩:=h.obj;exact ⟨⟨ds,h1.other i u (qg hq h1 ht.2),h2⟩,h.len.set hq ht.1 i u,h.dis.set hq ht.1 i u,h.cap⟩
theorem zkx {r:List Tok}{k:Nat}(hk:r.take k=r) (u:Value) (hu:u=.int .i64 ((cntF r 256:Nat)+1:Int)):(va 286 (fV r k)).setIfInBounds 256 u=va 286 fun y => .int .i64 ((cfL r).getD y 0:Nat):=by
 rw [qF];refine zq fun y hy=>?_
 unfold fV;rw [hk,uL r hy];by_cases e:y=256
 ·rw [if_pos e,hu,if_pos e,e];congr 1
 ·rw [if_neg e,if_neg e,Nat.add_zero]
theorem zk2 {r:List Tok}{k:Nat}(hk:r.take k=r):va 30 (oV r k)=va 30 fun y => .int .i64 ((coL r).getD y 0:Nat):=by
 refine zq fun y hy=>?_
 unfold oV;rw [hk,Q5 r hy]
theorem zlD {t:Array Value}{W:World}{q:Nat}{x0 x1:Value}(h4:t[4]? = some (.pointer (some ⟨q,0,none⟩))) (h:Blk W q 141 #[x0,x1]):(results Tryz.f84 t).run prog W=.ok (.agg #[x0,x1]) W:=by
 have e0:=(h.cell 0).trans (show _=some x0 from rfl);have e1:=(h.cell 1).trans (show _=some x1 from rfl);simp [results,results84,h4,go_sem,e0,e1]
theorem Ue (A:Array Value) (w:World):(callFunc 126 A).run prog w=.ok (.enter 126 A) w:=by kernel_rfl
def zmf (w:World) (r:List Tok) (e:Ending) (w':World):Prop:=∃ f1 f2,e=.returned (.agg #[.slice (some ⟨f1,0,none⟩) 286 286,.slice (some ⟨f2,0,none⟩) 30 30])∧Blk w' f1 3 (va 286 fun y => .int .i64 ((cfL r).getD y 0:Nat))∧Blk w' f2 3 (va 30 fun y => .int .i64 ((coL r).getD y 0:Nat))∧Below w.heap.size w w'
set_option maxHeartbeats 6400000 in
theorem zbL {w:World}{pk pw lb db lc dc:Nat}{ao:Option Addr}{cr:Nat}{r:List Tok}(hk:PkA w pk pw lb db lc dc) (hr:V.KS w ao r) (hrl:r.length≤20000) (hok:∀ t∈r,z7 t) :
  Calls prog 84 #[.pointer (some ⟨pk,0,none⟩),.slice ao r.length cr] w (zmf w r):=by
 obtain ⟨w1,hw1⟩:=exq (w.alloc (.cells #[.slice none 0 0,.slice none 0 0] 141));have B1:Hid (Below w.heap.size w w1):=J (by rw [hw1];exact (Below.refl _ _).alloc (Nat.le_refl _) _);obtain ⟨q0,hq⟩:=exq (w.heap.size);have R1:Hid (Blk w1 q0 141 #[.slice none 0 0,.slice none 0 0]∧w.heap.size≤q0):=J (by rw [hw1,hq];exact ⟨Blk.made _ _ _,Nat.le_refl _⟩);have HK:=J (hk.grow B1.out);have HKW:=J hk;have HR:=J hr;have HOK:=J hok;have k1:=HK.out.cells.2.1;have k2:=HK.out.cells.2.2;obtain ⟨L,hL⟩:=exq (r.length);have HL:=J hL;rw [←hL] at hrl ⊢;clear hk hr hok hL;go_enter func84,ntmps84;go_upto_region 1 with fail
 rw [←hw1,←hq];clear hw1 hq;go_cut [5] from 7 to 21 (fun s5 wx=>∃ nb f1 f2:Nat,s5=.pointer (some ⟨nb,0,none⟩)∧Hid (Cnw w q0 nb f1 f2 (fV r 0) (oV r 0) wx));case first=>
  have hm1:=fun W:World=>JP 286 (by omega) W
  have hm2:=fun W:World=>JP 30 (by omega) W
  rw [zii r] at hm1;rw [zio r] at hm2;have e286:IntKind.i64.wrap 286=286:=by decide
  simp only [Int.cast_ofNat_Int] at hm1 hm2;have AF0:Hid (∀ W,Below w1.heap.size w1 W→W.cell? ⟨pk,1,none⟩=some (.slice (some ⟨lb,0,none⟩) 29 lc)∧W.cell? ⟨pk,2,none⟩=some (.slice (some ⟨db,0,none⟩) 30 dc)):=J fun W hW=>(HK.out.grow hW).cells.2
  have BL1:Hid (∀ A,Below w1.heap.size w1 (w1.alloc A).drew):=J fun A=>((Below.refl _ _).alloc (Nat.le_refl _) A).on (zf _)
  have BL2:Hid (∀ A B,Below w1.heap.size w1 ((w1.alloc A).alloc B).drew):=J fun A B=>(((Below.refl _ _).alloc (Nat.le_refl _) A).on ((Below.refl _ _).alloc (Nat.le_refl _) B)).on (zf _)
  have BL3:Hid (∀ A B C,Below w1.heap.size w1 (((w1.alloc A).alloc B).alloc C).drew):=J fun A B C=>((((Below.refl _ _).alloc (Nat.le_refl _) A).on ((Below.refl _ _).alloc (Nat.le_refl _) B)).on ((Below.refl _ _).alloc (Nat.le_refl _) C)).on (zf _)
  have BL4:Hid (∀ A B C n u v,w1.heap.size≤n→Below w1.heap.size w1 (((((w1.alloc A).alloc B).alloc C).drew.setCell ⟨n,0,none⟩ u).setCell ⟨n,1,none⟩ v)):=J fun A B C n u v hn=>set2 (BL3.out A B C) hn u v
  go_region_held3 (fun W=>W.cell? ⟨pk,1,none⟩=some (.slice (some ⟨lb,0,none⟩) 29 lc)∧W.cell? ⟨pk,2,none⟩=some (.slice (some ⟨db,0,none⟩) 30 dc)) (first | exact AF0.out _ (zf _) | exact AF0.out _ (BL1.out _) | exact AF0.out _ (BL2.out _ _) | exact AF0.out _ (BL3.out _ _ _) | exact AF0.out _ (BL4.out _ _ _ _ _ _ (by omega))) (fail)
  all_goals
   go_wp2_with fail
   go_meet
   exact ⟨_,_,_,rfl,J (zmv B1.out R1.out _ _ _ (by first | exact zcS _ _ _ _ _ | exact zbU _ _ _ _ _ | exact zbR _ _ _ _ _) (by first | exact zcS _ _ _ _ _ | exact zbU _ _ _ _ _ | exact zbR _ _ _ _ _) (by first | exact zcS _ _ _ _ _ | exact zbU _ _ _ _ _ | exact zbR _ _ _ _ _) (by omega))⟩
 case rest=>
  obtain ⟨nb,f1,f2,rfl,HCN⟩:=hcut;go_wp2_with fail
  go_loopw [24] (fun v24 wr=>∃ (k:Nat),k≤L∧v24=.int .i64 (k:Nat)∧Hid (Cnw w q0 nb f1 f2 (fV r k) (oV r k) wr)) (fun v24 _=>L-(intOf v24).toNat)
  case atStart=>exact ⟨0,Nat.zero_le _,rfl,HCN⟩
  case round=>
   obtain ⟨k,hk,rfl,HX⟩:=hrel;have HRr:=J (V.KS.on HR.out HX.out.b);by_cases hlt:k<L
   ·have hlt':(k:Int)<L:=by omega
    obtain ⟨b,off,rfl,t0,t1,t2⟩:=HRr.out.at (show k<r.length by rw [←HL.out];exact hlt);obtain ⟨t,ht⟩:=exq (V.tk r k);have HT:Hid (t∈r∧r.take (k+1)=r.take k++[t]):=J ⟨by rw [ht];exact V.za6 r k (by rw [←HL.out];exact hlt),by rw [ht];exact V.yM r k (by rw [←HL.out];exact hlt)⟩;rw [←ht] at t0 t1 t2;clear ht;have hTok:=HOK.out t HT.out.1;obtain ⟨x0,hx0⟩:=exq (t.lit);obtain ⟨x1,hx1⟩:=exq (t.len);obtain ⟨x2,hx2⟩:=exq (t.dist);rw [←hx0] at t0;rw [←hx1] at t1;rw [←hx2] at t2;have hx8:x0<256:=by rw [hx0];exact hTok.2
    obtain ⟨w2,hw2⟩:=exq (wr.alloc (.cells #[.int .u8 (x0:Nat),.int .i64 (x1:Nat),.int .i64 (x2:Nat)] 128));have B2:Hid (Below wr.heap.size wr w2):=J (by rw [hw2];exact (Below.refl _ _).alloc (Nat.le_refl _) _);obtain ⟨q2,hq2⟩:=exq (wr.heap.size);have R2:Hid (Blk w2 q2 128 #[.int .u8 (x0:Nat),.int .i64 (x1:Nat),.int .i64 (x2:Nat)]):=J (by rw [hw2,hq2];exact Blk.made _ _ _);have HX3:=J (And.intro hx0 (And.intro hx1 hx2));have HTK:=J hTok;have C2:=J (HX.out.grow B2.out);clear hx0 hx1 hx2 hTok;go_upto_region 5 with fail
    rw [←hw2,←hq2];clear hw2 hq2 t0 t1 t2;have m1:=(R2.out.cell 1).trans (show _=some (.int .i64 (x1:Nat)) from rfl);have n0:=(C2.out.n.cell 0).trans (show _=some (.slice (some ⟨f1,0,none⟩) 286 286) from rfl);have n1:=(C2.out.n.cell 1).trans (show _=some (.slice (some ⟨f2,0,none⟩) 30 30) from rfl);by_cases h0:x1=0
    ·subst h0
     have m0:=(R2.out.cell 0).trans (show _=some (.int .u8 (x0:Nat)) from rfl);have HFS:Hid (fsy t=x0∧t.len=0):=J (by
      have h1:t.len=0:=HX3.out.2.1.symm;unfold fsy;rw [if_pos h1,HX3.out.1];exact ⟨rfl,h1⟩)
     obtain ⟨cx,hcx⟩:=exq (cntF (r.take k) x0);have hcl:cx≤20000:=by have:=yV (r.take k) x0;rw [List.length_take] at this;omega
     have v0:=(C2.out.c.f.cell x0).trans (zw 286 _ x0 (by omega));unfold fV at v0;rw [←hcx] at v0;have v1:=C2.out.c.f.free x0;have HCX:=J hcx;have hx9:(x0:Int)<286:=by omega
     clear hcx;go_wp2;go_roundw;case rel=>
      refine ⟨k+1,by omega,by go_num,J ?_⟩;have hs:=C2.out.setF (i:=fsy t) (F':=fV r (k+1)) (zhu HT.out.2 _ rfl);rw [HFS.out.1,←HCX.out] at hs;have ho:=zjt HFS.out.2 HT.out.2;exact ⟨⟨hs.c.f,by rw [←ho];exact hs.c.o,hs.c.ne⟩,hs.n,hs.r,hs.lo,hs.ne,hs.b⟩
     case measure=>simp [intOf];omega
    ·have h0b:((x1:Int) == 0)=false:=by simp;omega
     have ht0:t.len≠0:=by rw [←HX3.out.2.1];exact h0
     have hTl:=HTK.out.len ht0;have hL1:=lix hTl.1 hTl.2.1;have hD1:=dix hTl.2.2.1 hTl.2.2.2;have hfs:fsy t=lsy t.len:=by unfold fsy;rw [if_neg ht0]
     have hfsl:=HTK.out.fsy.1;have hdsl:=HTK.out.dsy ht0;rw [hfs] at hfsl;have HS1:=J (zhu (r:=r) (k:=k) HT.out.2 _ rfl);have HS2:=J (zkO (r:=r) (k:=k) ht0 HT.out.2 _ rfl);rw [hfs] at HS1;rw [←HX3.out.2.1] at hL1 hfsl HS1;rw [←HX3.out.2.2] at hD1 hdsl HS2;obtain ⟨y1,hy1⟩:=exq (lsy x1);obtain ⟨a1,ha1⟩:=exq (lbs x1);obtain ⟨e1,he1⟩:=exq (lxt x1);obtain ⟨y2,hy2⟩:=exq (dsy x2);obtain ⟨a2,ha2⟩:=exq (dbs x2);obtain ⟨e2,he2⟩:=exq (dxt x2);have hv1:rgV 257 LBs LXs x1=.agg #[.int .i64 (y1:Nat),.int .i64 (a1:Nat),.int .i64 (e1:Nat)]:=by rw [hy1,ha1,he1];rfl
     have hv2:rgV 0 DBs DXs x2=.agg #[.int .i64 (y2:Nat),.int .i64 (a2:Nat),.int .i64 (e2:Nat)]:=by rw [hy2,ha2,he2];unfold rgV;rw [Nat.zero_add];rfl
     rw [←hy1] at hfsl HS1;rw [←hy2] at hdsl HS2;have hy1z:(y1:Int)<286:=by omega
     have hy2z:(y2:Int)<30:=by omega
     obtain ⟨c1,hc1⟩:=exq (cntF (r.take k) y1);have hcl1:c1≤20000:=by have:=yV (r.take k) y1;rw [List.length_take] at this;omega
     obtain ⟨c2,hc2⟩:=exq (vK (r.take k) y2);have hcl2:c2≤20000:=by have:=QR (r.take k) y2;rw [List.length_take] at this;omega
     rw [←hc1] at HS1;rw [←hc2] at HS2;have P2:=J (HKW.out.grow C2.out.b);have HRG1:Hid (∀ W,Below w2.heap.size w2 W→Calls prog 126 #[.slice (some ⟨lb,0,none⟩) 29 lc,.int .i64 x1] W fun e w'=>e=.returned (.agg #[.int .i64 (y1:Nat),.int .i64 (a1:Nat),.int .i64 (e1:Nat)])∧Below W.heap.size W w'):=
      J fun W hW=>by rw [←hv1];exact yI lb 29 lc 257 LBs LXs x1 W (P2.out.len.grow hW) vp rfl (by omega) P2.out.cap.1 hL1.1
     have HRG2:Hid (∀ W,RgA W db 30 0 DBs DXs→Calls prog 126 #[.slice (some ⟨db,0,none⟩) 30 dc,.int .i64 x2] W fun e w'=>e=.returned (.agg #[.int .i64 (y2:Nat),.int .i64 (a2:Nat),.int .i64 (e2:Nat)])∧Below W.heap.size W w'):=
      J fun W hW=>by rw [←hv2];exact yI db 30 dc 0 DBs DXs x2 W hW vC rfl (by omega) P2.out.cap.2 hD1.1
     have fld:=fun W=>XC y1 a1 e1 W
     have fld2:=fun W=>XC y2 a2 e2 W
     have SA:Hid (∀ W,Blk W nb 141 #[.slice (some ⟨f1,0,none⟩) 286 286,.slice (some ⟨f2,0,none⟩) 30 30]→PkA W pk pw lb db lc dc→Blk W q2 128 #[.int .u8 (x0:Nat),.int .i64 (x1:Nat),.int .i64 (x2:Nat)]→W.cell? ⟨nb,0,none⟩=some (.slice (some ⟨f1,0,none⟩) 286 286)∧W.cell? ⟨pk,1,none⟩=some (.slice (some ⟨lb,0,none⟩) 29 lc)∧W.cell? ⟨q2,1,none⟩=some (.int .i64 (x1:Nat))):=J fun W a b c=>⟨(a.cell 0).trans rfl,b.cells.2.1,(c.cell 1).trans rfl⟩
     have SB:Hid (∀ W,Blk W nb 141 #[.slice (some ⟨f1,0,none⟩) 286 286,.slice (some ⟨f2,0,none⟩) 30 30]→PkA W pk pw lb db lc dc→Blk W q2 128 #[.int .u8 (x0:Nat),.int .i64 (x1:Nat),.int .i64 (x2:Nat)]→W.cell? ⟨nb,1,none⟩=some (.slice (some ⟨f2,0,none⟩) 30 30)∧W.cell? ⟨pk,2,none⟩=some (.slice (some ⟨db,0,none⟩) 30 dc)∧W.cell? ⟨q2,2,none⟩=some (.int .i64 (x2:Nat))):=J fun W a b c=>⟨(a.cell 1).trans rfl,b.cells.2.2,(c.cell 2).trans rfl⟩
     have HC1:=J hc1;have HC2:=J hc2;have F1A:Hid (∀ W,Blk W f1 3 (va 286 (fV r k))→W.cell? ⟨f1,y1,none⟩=some (.int .i64 (c1:Nat))∧W.frozen? ⟨f1,y1,none⟩=false):=J fun W a=>⟨by rw [a.cell,zw 286 _ y1 hfsl,HC1.out];rfl,a.free _⟩
     have F2A:Hid (∀ W,Blk W f2 3 (va 30 (oV r k))→W.cell? ⟨f2,y2,none⟩=some (.int .i64 (c2:Nat))∧W.frozen? ⟨f2,y2,none⟩=false):=J fun W a=>⟨by rw [a.cell,zw 30 _ y2 hdsl,HC2.out];rfl,a.free _⟩
     clear hTl hL1 hD1 hfs hfsl hdsl hy1 ha1 he1 hy2 ha2 he2 hv1 hv2 ht0 hc1 hc2 n1;have hwc1:IntKind.i64.wrap ((c1:Int)+1)=(c1:Int)+1:=by rw [IntKind.wrap_i64];omega
     have hwc2:IntKind.i64.wrap ((c2:Int)+1)=(c2:Int)+1:=by rw [IntKind.wrap_i64];omega
     obtain ⟨s0,s1,s2⟩:=SA.out w2 C2.out.n P2.out R2.out;clear n0 m1;go_wp2_with fail
     refine wp_region_held_drew (S:=fun W=>W.cell? ⟨nb,0,none⟩=some (.slice (some ⟨f1,0,none⟩) 286 286)∧W.cell? ⟨pk,1,none⟩=some (.slice (some ⟨lb,0,none⟩) 29 lc)∧W.cell? ⟨q2,1,none⟩=some (.int .i64 (x1:Nat))) (by kernel_rfl) (SA.out _ (C2.out.n.below (zf _)) (P2.out.grow (zf _)) (R2.out.below (zf _))) (fun hHeld=>?_)
     refine tA 0 (.pointer (some ⟨nb,0,none⟩)) hHeld ?_;dsimp only [List.set];refine tA 1 (.slice (some ⟨f1,0,none⟩) 286 286) hHeld ?_;dsimp only [List.set];refine tA 2 (.pointer (some ⟨pk,0,none⟩)) hHeld ?_;dsimp only [List.set];refine tA 3 (.pointer (some ⟨pk,0,none⟩)) hHeld ?_;dsimp only [List.set];refine tA 4 (.pointer (some ⟨pk,1,none⟩)) hHeld ?_;dsimp only [List.set];refine tA 5 (.slice (some ⟨lb,0,none⟩) 29 lc) hHeld ?_;dsimp only [List.set];refine tA 6 (.pointer (some ⟨q2,1,none⟩)) hHeld ?_;dsimp only [List.set];refine tA 7 (.int .i64 (x1:Nat)) hHeld ?_;dsimp only [List.set];refine wpAnyH_ready (rs:=[8]) (by kernel_rfl) (by simp) ?_;refine AllReadyH.cons (o:={ dst:=some 47,op:=Op.call { callee:=Callee.value (Operand.func 126),args := #[Operand.tmp 44,Operand.tmp 46],argTypes := #[86,3] },type:=174,pos := "deflate.go:274",after := #[{ on:=5,ground:=Ground.data },{ on:=7,ground:=Ground.data }],guard:=none }) rfl (fun K hK=>?_) AllReadyH.nil;refine V.zk (by rfl) _ _ (V.zB (.func 126) (.tmp 44) (.tmp 46) _ 126 #[] (.slice (some ⟨lb,0,none⟩) 29 lc) (.int .i64 (x1:Nat)) (fun _=>Ue _ _) rfl rfl rfl rfl) (fun v W=>v=.agg #[.int .i64 (y1:Nat),.int .i64 (a1:Nat),.int .i64 (e1:Nat)]∧Below w2.heap.size w2 W) ?_ ?_
     ·refine (HRG1.out _ (zf w2)).mono ?_
      rintro e W ⟨rfl,hb⟩;exact ⟨_,rfl,rfl,(zf w2).on hb⟩
     rintro v w3 ⟨rfl,hb3⟩;have B3:=J hb3;have C3:=J (C2.out.grow B3.out);have N3:=J C3.out.n;have P3:=J (P2.out.grow B3.out);have R3:=J (R2.out.below B3.out);have G3:=J C3.out.c.f;obtain ⟨j3,j4⟩:=F1A.out w3 G3.out;refine hK.out _ _ (SA.out _ N3.out P3.out R3.out) (fun hHeld=>?_);clear hK K hb3;try simp only [Act.put,List.setIfInBounds_toArray,List.set_cons_zero,List.set_cons_succ]
     refine tA 9 (.int .i64 (y1:Nat)) hHeld ?_;dsimp only [List.set];refine tA 10 (.pointer (some ⟨f1,y1,none⟩)) hHeld ?_;dsimp only [List.set];refine wpAnyH_ready (rs:=[11]) (by kernel_rfl) (by simp) ?_;refine AllReadyH.cons (o:={ dst:=some 50,op:=Op.load 3 (Operand.tmp 49),type:=3,pos := "deflate.go:274",after := #[{ on:=10,ground:=Ground.data }],guard:=none }) rfl (fun K hK=>?_) AllReadyH.nil;go_simp
     refine hK.out _ _ hHeld (fun hHeld=>?_);clear hK K;try simp only [Act.put,List.setIfInBounds_toArray,List.set_cons_zero,List.set_cons_succ]
     refine tA 12 (.int .i64 ((c1:Int)+1)) hHeld ?_;dsimp only [List.set];refine tA 13 (.pointer (some ⟨f1,y1,none⟩)) hHeld ?_;dsimp only [List.set];refine wpAnyH_ready (rs:=[14]) (by kernel_rfl) (by simp) ?_;refine AllReadyH.cons (o:={ dst:=none,op:=Op.store 3 (Operand.tmp 52) (Operand.tmp 51),type:=0,pos := "deflate.go:274",after := #[{ on:=13,ground:=Ground.data },{ on:=12,ground:=Ground.data },{ on:=8,ground:=Ground.chain },{ on:=0,ground:=Ground.phase },{ on:=1,ground:=Ground.phase },{ on:=2,ground:=Ground.phase },{ on:=3,ground:=Ground.phase },{ on:=4,ground:=Ground.phase },{ on:=5,ground:=Ground.phase },{ on:=6,ground:=Ground.phase },{ on:=7,ground:=Ground.phase },{ on:=8,ground:=Ground.phase },{ on:=9,ground:=Ground.phase },{ on:=10,ground:=Ground.phase },{ on:=11,ground:=Ground.phase },{ on:=12,ground:=Ground.phase }],guard:=none }) rfl (fun K hK=>?_) AllReadyH.nil;go_simp
     refine hK.out _ _ (SA.out _ (N3.out.other _ _ (qg G3.out N3.out (by decide))) (P3.out.set G3.out (by decide) _ _) (R3.out.other _ _ (qg G3.out R3.out (by decide)))) (fun hHeld=>?_);clear hK K;try simp only [Act.put,List.setIfInBounds_toArray,List.set_cons_zero,List.set_cons_succ]
     refine wpAnyH_done (by kernel_rfl) ?_ _;obtain ⟨w4,hw4⟩:=exq (w3.setCell ⟨f1,y1,none⟩ (.int .i64 ((c1:Int)+1)));have C4:Hid (Cnw w q0 nb f1 f2 (fV r (k+1)) (oV r k) w4):=J (by rw [hw4];exact C3.out.setF HS1.out);have P4:Hid (PkA w4 pk pw lb db lc dc):=J (by rw [hw4];exact P3.out.set G3.out (by decide) _ _);have R4:Hid (Blk w4 q2 128 #[.int .u8 (x0:Nat),.int .i64 (x1:Nat),.int .i64 (x2:Nat)]):=J (by rw [hw4];exact R3.out.other _ _ (qg G3.out R3.out (by decide)));go_upto_region 8 with fail
     rw [←hw4];clear hw4 j3 j4 s0 s1 s2;obtain ⟨s0,s1,s2⟩:=SB.out w4 C4.out.n P4.out R4.out;refine wp_region_held_drew (S:=fun W=>W.cell? ⟨nb,1,none⟩=some (.slice (some ⟨f2,0,none⟩) 30 30)∧W.cell? ⟨pk,2,none⟩=some (.slice (some ⟨db,0,none⟩) 30 dc)∧W.cell? ⟨q2,2,none⟩=some (.int .i64 (x2:Nat))) (by kernel_rfl) (SB.out _ (C4.out.n.below (zf _)) (P4.out.grow (zf _)) (R4.out.below (zf _))) (fun hHeld=>?_)
     refine tA 0 (.pointer (some ⟨nb,1,none⟩)) hHeld ?_;dsimp only [List.set];refine tA 1 (.slice (some ⟨f2,0,none⟩) 30 30) hHeld ?_;dsimp only [List.set];refine tA 2 (.pointer (some ⟨pk,0,none⟩)) hHeld ?_;dsimp only [List.set];refine tA 3 (.pointer (some ⟨pk,0,none⟩)) hHeld ?_;dsimp only [List.set];refine tA 4 (.pointer (some ⟨pk,2,none⟩)) hHeld ?_;dsimp only [List.set];refine tA 5 (.slice (some ⟨db,0,none⟩) 30 dc) hHeld ?_;dsimp only [List.set];refine tA 6 (.pointer (some ⟨q2,2,none⟩)) hHeld ?_;dsimp only [List.set];refine tA 7 (.int .i64 (x2:Nat)) hHeld ?_;dsimp only [List.set];refine wpAnyH_ready (rs:=[8]) (by kernel_rfl) (by simp) ?_;refine AllReadyH.cons (o:={ dst:=some 61,op:=Op.call { callee:=Callee.value (Operand.func 126),args := #[Operand.tmp 58,Operand.tmp 60],argTypes := #[86,3] },type:=174,pos := "deflate.go:275",after := #[{ on:=5,ground:=Ground.data },{ on:=7,ground:=Ground.data }],guard:=none }) rfl (fun K hK=>?_) AllReadyH.nil;refine V.zk (by rfl) _ _ (V.zB (.func 126) (.tmp 58) (.tmp 60) _ 126 #[] (.slice (some ⟨db,0,none⟩) 30 dc) (.int .i64 (x2:Nat)) (fun _=>Ue _ _) rfl rfl rfl rfl) (fun v W=>v=.agg #[.int .i64 (y2:Nat),.int .i64 (a2:Nat),.int .i64 (e2:Nat)]∧Below w4.heap.size w4 W) ?_ ?_
     ·refine (HRG2.out _ (P4.out.dis.grow (zf w4))).mono ?_
      rintro e W ⟨rfl,hb⟩;exact ⟨_,rfl,rfl,(zf w4).on hb⟩
     rintro v w5 ⟨rfl,hb3⟩;have B5:=J hb3;have C5:=J (C4.out.grow B5.out);have N5:=J C5.out.n;have P5:=J (P4.out.grow B5.out);have R5:=J (R4.out.below B5.out);have G5:=J C5.out.c.o;obtain ⟨j3,j4⟩:=F2A.out w5 G5.out;refine hK.out _ _ (SB.out _ N5.out P5.out R5.out) (fun hHeld=>?_);clear hK K hb3;try simp only [Act.put,List.setIfInBounds_toArray,List.set_cons_zero,List.set_cons_succ]
     refine tA 9 (.int .i64 (y2:Nat)) hHeld ?_;dsimp only [List.set];refine tA 10 (.pointer (some ⟨f2,y2,none⟩)) hHeld ?_;dsimp only [List.set];refine wpAnyH_ready (rs:=[11]) (by kernel_rfl) (by simp) ?_;refine AllReadyH.cons (o:={ dst:=some 64,op:=Op.load 3 (Operand.tmp 63),type:=3,pos := "deflate.go:275",after := #[{ on:=10,ground:=Ground.data }],guard:=none }) rfl (fun K hK=>?_) AllReadyH.nil;go_simp
     refine hK.out _ _ hHeld (fun hHeld=>?_);clear hK K;try simp only [Act.put,List.setIfInBounds_toArray,List.set_cons_zero,List.set_cons_succ]
     refine tA 12 (.int .i64 ((c2:Int)+1)) hHeld ?_;dsimp only [List.set];refine tA 13 (.pointer (some ⟨f2,y2,none⟩)) hHeld ?_;dsimp only [List.set];refine wpAnyH_ready (rs:=[14]) (by kernel_rfl) (by simp) ?_;refine AllReadyH.cons (o:={ dst:=none,op:=Op.store 3 (Operand.tmp 66) (Operand.tmp 65),type:=0,pos := "deflate.go:275",after := #[{ on:=13,ground:=Ground.data },{ on:=12,ground:=Ground.data },{ on:=8,ground:=Ground.chain },{ on:=0,ground:=Ground.phase },{ on:=1,ground:=Ground.phase },{ on:=2,ground:=Ground.phase },{ on:=3,ground:=Ground.phase },{ on:=4,ground:=Ground.phase },{ on:=5,ground:=Ground.phase },{ on:=6,ground:=Ground.phase },{ on:=7,ground:=Ground.phase },{ on:=8,ground:=Ground.phase },{ on:=9,ground:=Ground.phase },{ on:=10,ground:=Ground.phase },{ on:=11,ground:=Ground.phase },{ on:=12,ground:=Ground.phase }],guard:=none }) rfl (fun K hK=>?_) AllReadyH.nil;go_simp
     refine hK.out _ _ (SB.out _ (N5.out.other _ _ (qg G5.out N5.out (by decide))) (P5.out.set G5.out (by decide) _ _) (R5.out.other _ _ (qg G5.out R5.out (by decide)))) (fun hHeld=>?_);clear hK K;try simp only [Act.put,List.setIfInBounds_toArray,List.set_cons_zero,List.set_cons_succ]
     refine wpAnyH_done (by kernel_rfl) ?_ _;go_wp2;go_roundw;case rel=>exact ⟨k+1,by omega,by go_num,J (C5.out.setO HS2.out)⟩
     case measure=>simp [intOf];omega
   ·obtain rfl:k=L:=by omega
    have hTA:r.take k=r:=by rw [HL.out,List.take_length]
    have HTA:=J hTA;obtain ⟨c1,hc1⟩:=exq (cntF r 256);have hcl1:c1≤20000:=by have:=yV r 256;rw [←HL.out] at this;omega
    have n0:=(HX.out.n.cell 0).trans (show _=some (.slice (some ⟨f1,0,none⟩) 286 286) from rfl);have v0:=(HX.out.c.f.cell 256).trans (zw 286 _ 256 (by omega));unfold fV at v0;rw [hTA,←hc1] at v0;have v1:=HX.out.c.f.free 256;have HC1:=J hc1;obtain ⟨w4,hw4⟩:=exq (wr.setCell ⟨f1,256,none⟩ (.int .i64 ((c1:Int)+1)));have C4:Hid (Cnw w q0 nb f1 f2 (fun y => .int .i64 ((cfL r).getD y 0:Nat)) (fun y => .int .i64 ((coL r).getD y 0:Nat)) w4):=J (by
     have h1:=HX.out.setF (zkx HTA.out (.int .i64 ((c1:Int)+1)) (by rw [HC1.out]));rw [←hw4] at h1;exact ⟨⟨h1.c.f,by rw [←zk2 HTA.out];exact h1.c.o,h1.c.ne⟩,h1.n,h1.r,h1.lo,h1.ne,h1.b⟩)
    clear hTA hc1;go_upto_region 11 with fail
    rw [←hw4];clear hw4 n0 v0 v1;have n0:=(C4.out.n.cell 0).trans (show _=some (.slice (some ⟨f1,0,none⟩) 286 286) from rfl);have n1:=(C4.out.n.cell 1).trans (show _=some (.slice (some ⟨f2,0,none⟩) 30 30) from rfl);have z0:=(C4.out.r.cell 0).trans (show _=some (.slice none 0 0) from rfl);have z1:=(C4.out.r.cell 1).trans (show _=some (.slice none 0 0) from rfl);have g0:=C4.out.r.free 0;have g1:=C4.out.r.free 1;go_wp2;refine bodyPost_ret (zlD rfl ((C4.out.r.setCell 0 _).setCell 1 _)) rfl ⟨f1,f2,rfl,?_,?_,set2 C4.out.b C4.out.lo.1 _ _⟩
    ·exact (C4.out.c.f.other 0 _ (qg C4.out.r C4.out.c.f (by decide))).other 1 _ (qg C4.out.r C4.out.c.f (by decide))
    ·exact (C4.out.c.o.other 0 _ (qg C4.out.r C4.out.c.o (by decide))).other 1 _ (qg C4.out.r C4.out.c.o (by decide))
theorem zkN (zs:List Int):∀ f a,(Y.pk zs f a).length≤f:=by
 intro f;induction f with
 | zero=>intro a;rw [Y.pk];exact Nat.le_refl _
 | succ f ih=>
  intro a;rw [Y.pk];split
  ·rw [List.length_cons];have:=ih (a+Y.qi zs a);omega
  ·exact Nat.zero_le _
theorem xQ (row:List Nat):(zC row).length=(qA row).length:=by unfold zC;rw [List.length_map]
theorem kA (row:List Nat):(qA row).length≤row.length:=by
 have:=zkN (Y.ints row) (Y.ints row).length 0;rw [Y.zj] at this;unfold qA Y.pkl;rw [Y.zj];exact this
def itk (row:List Nat) (k:Nat):Nat × Nat:=(zC row).getD k (0,0)
theorem zeY {row:List Nat}(h15:∀ x∈row,x≤15) (hl:row.length≤320){k:Nat}(hk:k<(qA row).length):Y.itm (qA row) k=(((itk row k).1:Int),((itk row k).2:Int))∧itk row k∈zC row∧(zC row).take (k+1)=(zC row).take k++[itk row k]:=by
 have hk':k<(zC row).length:=by rw [xQ];exact hk
 have e1:itk row k=(zC row)[k]:=by unfold itk;rw [List.getD_eq_getElem?_getD,List.getElem?_eq_getElem hk'];rfl
 have e2:Y.itm (qA row) k=(qA row)[k]:=by unfold Y.itm;rw [List.getD_eq_getElem?_getD,List.getElem?_eq_getElem hk];rfl
 have e3:(zC row)[k]=nt (qA row)[k]:=by simp only [zC,List.getElem_map]
 have hi:=za9 h15 hl (List.getElem_mem hk);refine ⟨?_,by rw [e1];exact List.getElem_mem hk',by rw [e1];exact List.take_succ_eq_append_getElem hk'⟩;rw [e2,e1,e3];have a1:=hi.sym.1;have a2:=hi.ext;unfold nt;exact Prod.ext (by simp only;omega) (by simp only;omega)
structure Hd (B:Nat) (w:World) (row:List Nat) (g:Nat) (ia:Option Addr):Prop where
 own:Blk w g 3 (va 19 fun y => .int .i64 ((qD row).getD y 0:Nat))
 its:Y.TS w ia (qA row)
 ge:∀ b off,ia=some ⟨b,off,none⟩→B≤b
theorem Hd.grow {B:Nat}{w w1:World}{row:List Nat}{g:Nat}{ia:Option Addr}(h:Hd B w row g ia) (hb:Below w.heap.size w w1):Hd B w1 row g ia:=⟨h.own.below hb,Y.TS.on h.its hb,h.ge⟩
def hdV (n1 n2 g:Nat) (ia:Option Addr) (k ic:Nat):Value:=.agg #[.int .i64 n1,.int .i64 n2,.slice (some ⟨g,0,none⟩) 19 19,.slice ia k ic]
def zmq (w:World) (n1 n2:Nat) (row:List Nat) (e:Ending) (w':World):Prop:=∃ g ia ic,e=.returned (hdV n1 n2 g ia (qA row).length ic)∧Hd w.heap.size w' row g ia∧Below w.heap.size w w'
theorem zlw {t:Array Value}{W:World}{q:Nat}{x0 x1 x2 x3:Value}(h4:t[4]? = some (.pointer (some ⟨q,0,none⟩))) (h:Blk W q 145 #[x0,x1,x2,x3]):(results Tryz.f128 t).run prog W=.ok (.agg #[x0,x1,x2,x3]) W:=by
 have e0:=(h.cell 0).trans (show _=some x0 from rfl);have e1:=(h.cell 1).trans (show _=some x1 from rfl);have e2:=(h.cell 2).trans (show _=some x2 from rfl);have e3:=(h.cell 3).trans (show _=some x3 from rfl);simp [results,results128,h4,go_sem,e0,e1,e2,e3]
theorem zl3 {w w4:World}{q:Nat}(h:Below w.heap.size w w4) (hq:w.heap.size≤q) (x0 x1 x2 x3:Value):Below w.heap.size w ((((w4.setCell ⟨q,0,none⟩ x0).setCell ⟨q,1,none⟩ x1).setCell ⟨q,2,none⟩ x2).setCell ⟨q,3,none⟩ x3):=by
 have h3:Touch (fun k=>w.heap.size≤k) w w4:=(Touch.of_below h:Touch (fun _=>False) w w4).mono fun _ h=>h.elim
 exact ((((h3.setCell _ _ (.inr hq)).setCell _ _ (.inr hq)).setCell _ _ (.inr hq)).setCell _ _ (.inr hq)).below (Nat.le_refl _) fun k h=>h
def cV (row:List Nat) (k:Nat) (y:Nat):Value:=.int .i64 (((zC row).take k).countP (fun x=>decide (x.1=y)):Nat)
theorem ziF (row:List Nat):va (19*1) (fun i=>(Value.int .i64 0).cells[i%(Value.int .i64 0).cells.size]!)=va 19 (cV row 0):=by
 rw [Nat.mul_one];refine zq fun i _=>?_
 rw [show (Value.int .i64 0).cells = #[.int .i64 0] from rfl,show (#[Value.int .i64 0]:Array Value).size=1 from rfl,Nat.mod_one];rfl
theorem zlr {row:List Nat}{k:Nat}(h:(zC row).take (k+1)=(zC row).take k++[itk row k]) (s:Nat) (hs:s=(itk row k).1) (n:Nat) (hn:n=((zC row).take k).countP (fun x=>decide (x.1=s))) (u:Value) (hu:u=.int .i64 ((n:Nat)+1:Int)):(va 19 (cV row k)).setIfInBounds s u=va 19 (cV row (k+1)):=by
 subst hu;rw [qF];refine zq fun i hi=>?_
 unfold cV;rw [h,List.countP_append];by_cases e:i=s
 ·rw [if_pos e,e,←hn,hs];simp
 ·rw [if_neg e]
  have:decide ((itk row k).1=i)=false:=decide_eq_false (by rw [←hs];exact fun h=>e h.symm);simp [this]
structure Hw (w:World) (q0 gc:Nat) (row:List Nat) (ia:Option Addr) (k:Nat) (wr:World):Prop where
 res:Blk wr q0 145 #[.int .i64 0,.int .i64 0,.slice none 0 0,.slice none 0 0]∧w.heap.size≤q0
 cnt:Blk wr gc 3 (va 19 (cV row k))∧w.heap.size≤gc
 its:Y.TS wr ia (qA row)
 b:Below w.heap.size w wr
theorem Hw.more {w wr:World}{q0 gc:Nat}{row:List Nat}{ia:Option Addr}{k:Nat}(h:Hw w q0 gc row ia k wr) (o:Obj):Hw w q0 gc row ia k (wr.alloc o):=
 ⟨⟨h.res.1.more o,h.res.2⟩,⟨h.cnt.1.more o,h.cnt.2⟩,Y.TS.on h.its ((Below.refl _ _).alloc (Nat.le_refl _) o),h.b.on ((Below.refl _ _).alloc (Nat.le_refl _) o)⟩
theorem uw {w:World}{q:Nat}{i:Nat}{u:Value}{ao:Option Addr}{r:List (Int × Int)}(h:Y.TS w ao r) (hq:∀ b off,ao=some ⟨b,off,none⟩→q≠b):Y.TS (w.setCell ⟨q,i,none⟩ u) ao r:=by
 rcases h with h | ⟨b,off,rfl,hc⟩
 ·exact .inl h
 ·exact .inr ⟨b,off,rfl,fun j v hv=>by
   rw [World.cell?_setCell_other _ _ _ _ (by intro e;simp only [Addr.mk.injEq] at e;exact hq b off rfl e.1)];exact hc j v hv⟩
theorem Hw.set {w wr:World}{q0 gc:Nat}{row:List Nat}{ia:Option Addr}{k s:Nat}{u:Value}(h:Hw w q0 gc row ia k wr) (ha:∀ b off,ia=some ⟨b,off,none⟩→gc≠b) (hc:(va 19 (cV row k)).setIfInBounds s u=va 19 (cV row (k+1))):Hw w q0 gc row ia (k+1) (wr.setCell ⟨gc,s,none⟩ u):=
 ⟨⟨h.res.1.other s u (qg h.cnt.1 h.res.1 (by decide)),h.res.2⟩,⟨by rw [←hc];exact h.cnt.1.setCell s u,h.cnt.2⟩,uw h.its ha,yC h.b h.cnt.2 u⟩
set_option maxHeartbeats 1600000 in
theorem zhF (fl ol:List Nat) (g1 g2 c1 c2 n1 n2:Nat) (w:World) (h15:∀ x∈fl++ol,x≤15) (hl:(fl++ol).length≤320) (hf:1≤fl.length∧fl.length≤300) (ho:1≤ol.length∧ol.length≤300) (i1:IS w (some ⟨g1,0,none⟩) (Y.ints fl)) (i2:IS w (some ⟨g2,0,none⟩) (Y.ints ol)) (e1:n1=fl.length) (e2:n2=ol.length) :
  Calls prog 128 #[.slice (some ⟨g1,0,none⟩) n1 c1,.slice (some ⟨g2,0,none⟩) n2 c2] w (zmq w n1 n2 (fl++ol)):=by
 obtain ⟨row,hrow⟩:=exq (fl++ol);obtain ⟨w1,hw1⟩:=exq (w.alloc (.cells #[.int .i64 0,.int .i64 0,.slice none 0 0,.slice none 0 0] 145));obtain ⟨q0,hq⟩:=exq (w.heap.size);have B1:Hid (Below w.heap.size w w1):=J (by rw [hw1];exact (Below.refl _ _).alloc (Nat.le_refl _) _);have R1:Hid (Blk w1 q0 145 #[.int .i64 0,.int .i64 0,.slice none 0 0,.slice none 0 0]∧w.heap.size≤q0):=J ⟨by rw [hw1,hq];exact Blk.made _ _ _,by omega⟩;have HR:Hid (JQ (w1.alloc (.cells #[.slice (some ⟨g1,0,none⟩) n1 c1,.slice (some ⟨g2,0,none⟩) n2 c2] 40)) w1.heap.size (fun k=>some ⟨if k=0 then g1 else g2,0,none⟩) (fun k=>if k=0 then c1 else c2) (fun k=>if k=0 then Y.ints fl else Y.ints ol)):=J (by
  have hA:=(Below.refl w1.heap.size w1).alloc (Nat.le_refl _) (.cells #[.slice (some ⟨g1,0,none⟩) n1 c1,.slice (some ⟨g2,0,none⟩) n2 c2] 40);refine ⟨fun k hk=>?_,fun k hk=>?_,fun k hk h=>by simp at h,fun k hk=>?_⟩
  ·rw [(Blk.made w1 40 _).cell k]
   match k,hk with
   | 0,_=>simp [Y.zj,e1]
   | 1,_=>simp [Y.zj,e2]
  ·match k,hk with
   | 0,_=>exact (i1.below B1.out).below hA
   | 1,_=>exact (i2.below B1.out).below hA
  ·match k,hk with
   | 0,_=>simp only [if_pos,Y.zj];exact hf.2
   | 1,_=>simp only [Nat.one_ne_zero,if_false,Y.zj];exact ho.2)
 have HCT:Hid (cat (fun k=>if k=0 then Y.ints fl else Y.ints ol) 2=Y.ints row):=J (by
  rw [hrow,←Uw];simp [cat,List.range_succ])
 have H15:Hid (∀ x∈row,x≤15):=J (by rw [hrow];exact h15);have hrl:row.length≤320:=by rw [hrow];exact hl
 have hr1:1≤row.length:=by rw [hrow,List.length_append];omega
 have hC:=zbu _ _ _ _ _ HR.out (by rw [HCT.out,Y.zj];exact hr1);rw [HCT.out] at hC;have HC:=J hC;rw [←hrow];have hn1:n1≤300:=by omega
 have hn2:n2≤300:=by omega
 clear h15 hl hf ho i1 i2 e1 e2 hrow hC HR HCT;go_enter func128,ntmps128;go_upto_region 1 with fail
 rw [←hw1,←hq];clear hw1 hq;go_wp2_with fail
 refine HC.out.mono ?_;rintro e w2 ⟨ao,c,rfl,hO,hb⟩;rw [Y.zj] at hO ⊢;have B2:=J ((((Below.refl w1.heap.size w1).alloc (Nat.le_refl _) _).trans (hb.mono (by simp))):Below w1.heap.size w1 w2);have I2:Hid (IS w2 ao (Y.ints row)):=J (j9 hO (Y.zj _));clear hO hb HC;have HP:=J (Y.zdv ao c (Y.ints row) w2 (zaY.2 I2.out) (by rw [Y.zj];omega) (by
  unfold Y.xW;refine List.any_eq_false.2 fun z hz hb=>?_
  obtain ⟨x,hx,rfl⟩:=List.mem_map.1 hz;have:=H15.out x hx;have h2:Y.Bad 0 15 (x:Int):=of_decide_eq_true hb;unfold Y.Bad at h2;omega))
 rw [Y.zj] at HP;go_wp2_with fail
 refine HP.out.mono ?_;rintro e w3 ⟨ia,ic,rfl,hT,hb,hge⟩;have B3:=J (B2.out.on hb);have HT:=J (show Y.TS w3 ia (qA row) from hT);have HGE:Hid (∀ b off,ia=some ⟨b,off,none⟩→w.heap.size≤b):=J fun b off e=>Nat.le_trans (Nat.le_trans B1.out.size B2.out.size) (hge b off e)
 have HGB:Hid (∀ b off,ia=some ⟨b,off,none⟩→q0≠b):=J fun b off e=>by have h1:=R1.out.1.lt;have h2:=B2.out.size;have h3:=hge b off e;omega
 have HLT:Hid (∀ b off,ia=some ⟨b,off,none⟩→0<(qA row).length→b<w3.heap.size):=J fun b off e hk=>by
  obtain ⟨b',off',e',h1,_⟩:=Y.TS.at hT hk;rw [e] at e';cases e';exact World.block_lt_of_cell? w3 _ h1
 obtain ⟨L,hL⟩:=exq ((qA row).length);have HL:=J hL;have hL3:L≤320:=by have:=kA row;omega
 rw [show (Y.pkl (Y.ints row)).length=L from hL.symm];clear hT hb hge HP hL;go_wp2_with (refine zy rfl 40 (.const (.int .i64 19)) (.const (.int .i64 19)) rfl 3 (.int .i64 0) 1 8 19 underlying40 (by kernel_rfl) .i64 .i64 _ _ rfl rfl rfl rfl (by omega) (by omega) ?_;intro W hb ht hs;rw [ziF row] at hb;have HCB:=J hb;have HTB:=J ht;clear hb ht hs);obtain ⟨gc,hgc⟩:=exq (w3.heap.size);have HGA:Hid (∀ b off,ia=some ⟨b,off,none⟩→0<L→gc≠b):=J fun b off e hk=>by have:=HLT.out b off e (by rw [←HL.out];exact hk);omega
 have HX0:Hid (Hw w q0 gc row ia 0 W):=J (by
  have b4:Below w3.heap.size w3 W:=HTB.out.below (Nat.le_refl _) fun _ h=>h.elim
  have b5:=B3.out.on b4;exact ⟨⟨R1.out.1.below b5,R1.out.2⟩,⟨by rw [hgc];exact HCB.out,by rw [hgc];exact Nat.le_trans B1.out.size B3.out.size⟩,Y.TS.on HT.out b4,B1.out.on b5⟩)
 have HIK:=J fun (k:Nat) (hk:k<(qA row).length)=>zeY H15.out hrl hk
 have HIO:=J fun (x:Nat × Nat) (hx:x∈zC row)=>ja H15.out hrl hx
 rw [←hgc];clear hgc HCB HTB HLT;go_loopw [19] (fun v19 wr=>∃ (k:Nat),k≤L∧v19=.int .i64 (k:Nat)∧Hid (Hw w q0 gc row ia k wr)) (fun v19 _=>L-(intOf v19).toNat)
 case atStart=>exact ⟨0,Nat.zero_le _,rfl,HX0⟩
 case round=>
  obtain ⟨k,hk,rfl,HX⟩:=hrel;clear HX0;by_cases hlt:k<L
  ·have hlt':(k:Int)<L:=by omega
   have hlz:k<(qA row).length:=by rw [←HL.out];exact hlt
   obtain ⟨i1,i2,i3⟩:=HIK.out k hlz;obtain ⟨b,off,rfl,t0,t1⟩:=Y.TS.at HX.out.its hlz;rw [i1] at t0 t1;obtain ⟨s,hs⟩:=exq ((itk row k).1);obtain ⟨x,hx⟩:=exq ((itk row k).2);have hs18:s≤18:=by rw [hs];exact (HIO.out _ i2).1
   obtain ⟨n,hn⟩:=exq (((zC row).take k).countP (fun x=>decide (x.1=s)));have hn3:n≤320:=by
    have h1:((zC row).take k).countP (fun x=>decide (x.1=s))≤((zC row).take k).length:=List.countP_le_length;rw [List.length_take] at h1;omega
   have HSET:=J fun (u:Value) (hu:u=.int .i64 ((n:Nat)+1:Int))=>zlr i3 s hs n hn u hu
   obtain ⟨w5,hw5⟩:=exq (wr.alloc (.cells #[.int .i64 (s:Nat),.int .i64 (x:Nat)] 187));obtain ⟨q5,hq5⟩:=exq (wr.heap.size);have R5:Hid (Blk w5 q5 187 #[.int .i64 (s:Nat),.int .i64 (x:Nat)]):=J (by rw [hw5,hq5];exact Blk.made _ _ _);have HY:Hid (Hw w q0 gc row (some ⟨b,off,none⟩) k w5):=J (by rw [hw5];exact HX.out.more _);rw [←hs] at t0;rw [←hx] at t1;have hc5:w5.cell? ⟨gc,s,none⟩=some (.int .i64 (n:Nat)):=by rw [HY.out.cnt.1.cell,zw _ _ _ (by omega),hn];rfl
   have hf5:=HY.out.cnt.1.free s;have hs5:=(R5.out.cell 0).trans (show _=some (.int .i64 (s:Nat)) from rfl);have hs19:(s:Int)<19:=by omega
   clear i1 i2 i3 hs hx hn hlz;go_upto_region 6 with fail
   rw [←hw5,←hq5];clear hw5 hq5 t0 t1;go_wp2;go_roundw;case rel=>exact ⟨k+1,by omega,by go_num,J (HY.out.set (fun b' off' e=>HGA.out b' off' e (by omega)) (HSET.out _ rfl))⟩
   case measure=>simp [intOf];omega
  ·obtain rfl:k=L:=by omega
   have HCI:Hid (IS wr (some ⟨gc,0,none⟩) (Y.ints (c19 (zC row)))):=J (by
    have h1:=HX.out.cnt.1;rw [show va 19 (cV row k)=va 19 fun y => .int .i64 ((c19 (zC row)).getD y 0:Nat) from zq fun y hy=>by
     unfold cV;rw [zfU _ hy,HL.out,←xQ,List.take_length]] at h1
    have:=kh (L:=c19 (zC row)) h1 19 (Nat.le_refl _) (jQ _).symm;rwa [show (c19 (zC row)).take 19=c19 (zC row) by rw [←jQ (zC row),List.take_length]] at this)
   have HBD:=J (KH (c19 (zC row)) 7 (some ⟨gc,0,none⟩) 19 19 wr HCI.out (jQ _).symm (by rw [jQ];omega) (fun z hz=>by
    obtain ⟨y,_,rfl⟩:=List.mem_map.1 hz;have h1:(zC row).countP (fun x=>decide (x.1=y))≤(zC row).length:=List.countP_le_length;have h2:=xQ row;have h3:=kA row;omega) ⟨by omega,by omega⟩ (Ka _))
   go_wp2_with fail
   refine HBD.out.mono ?_;rintro e w6 ⟨g,rfl,hB,hb,hg⟩;have B6:=J hb;have R6:=J (show Blk w6 g 3 (va 19 fun y => .int .i64 ((qD row).getD y 0:Nat)) from hB);have RQ:=J (HX.out.res.1.below hb);have HGQ:Hid (q0≠g):=J (qg RQ.out R6.out (by decide));clear hB hb hg HBD;have z0:=(RQ.out.cell 0).trans (show _=some (.int .i64 0) from rfl);have z1:=(RQ.out.cell 1).trans (show _=some (.int .i64 0) from rfl);have z2:=(RQ.out.cell 2).trans (show _=some (.slice none 0 0) from rfl);have z3:=(RQ.out.cell 3).trans (show _=some (.slice none 0 0) from rfl);have f0:=RQ.out.free 0;have f1:=RQ.out.free 1;have f2:=RQ.out.free 2;have f3:=RQ.out.free 3;have hlt':(k:Int)≤k:=Int.le_refl _;go_wp2;refine bodyPost_ret (zlw rfl ((((RQ.out.setCell 0 _).setCell 1 _).setCell 2 _).setCell 3 _)) rfl ⟨g,ia,ic,by rw [←HL.out];rfl,⟨(((R6.out.other 0 _ HGQ.out).other 1 _ HGQ.out).other 2 _ HGQ.out).other 3 _ HGQ.out,?_,HGE.out⟩,zl3 (HX.out.b.on B6.out) R1.out.2 _ _ _ _⟩;exact uw (uw (uw (uw (Y.TS.on HX.out.its B6.out) HGB.out) HGB.out) HGB.out) HGB.out
end
end Go.Proofs.YtacpfpghokcdlaaGreatDoor
