/- Part 19. -/
import Derived.Test.YtbogfailbgbdoaaGreatDoorXB18
set_option linter.unusedVariables false
set_option linter.unusedSimpArgs false
namespace Go.Proofs.YtbogfailbgbdoaaGreatDoor.K
set_option maxRecDepth 100000
section
open Go.RowKit Go.Proofs.YtbogfailbgbdoaaGreatDoor U
def bV (xs:List Nat) (k e:Nat):Nat:=if e=0 then sk blaP (xs.drop k) else 0
theorem index_at (S:ByteArray) (k:Nat) (h:k<S.size) (x:Nat) (hx:(S[k]'h).toNat=x):∀ W,(Instr.index 9 (.string S) (.int .i64 (k:Nat))).run Tryz.prog W = .ok (.int .u8 (x:Nat)) W:=fun W=>by
 have h3:(k:Int)<S.size:=by omega
 subst hx
 simp [go_sem,h3]
theorem at56:AT 56 60 (.agg #[.string ⟨#[]⟩,.string ⟨#[]⟩]) 2 32:=⟨by kernel_rfl,by kernel_rfl,rfl,by omega⟩
theorem Rq.touch {w w':World} {p:Nat} {xs:List Nat} {k fr er:Nat} {S:Nat→Prop} (h:Rq w p xs k fr er) (ht:Touch S w w') (hs:¬S p):Rq w' p xs k fr er:=by
 obtain ⟨pl,h1,h2⟩:=h
 exact ⟨pl,⟨h1.blk.touch ht hs,h1.bs,h1.le,h1.len⟩,h2⟩
theorem Rq.lt {w:World} {p:Nat} {xs:List Nat} {k fr er:Nat} (h:Rq w p xs k fr er):p<w.heap.size:=by obtain ⟨pl,h1,h2⟩:=h;exact h1.blk.lt
theorem Rq.free {w:World} {p:Nat} {xs:List Nat} {k fr er:Nat} (h:Rq w p xs k fr er) (i:Nat):w.frozen? ⟨p,i,none⟩=false:=by obtain ⟨pl,h1,h2⟩:=h;exact h1.blk.free i
theorem row60 {w:World} {B:Nat} {a:Option Addr} {n c:Nat} {l:List At} (h:w.ownsRow B 60 2 (.slice a n c) l.length (atc l)) (hl:l≠[]):∃ g,a=some ⟨g,0,none⟩∧B≤g∧∀ i x,l[i]? = some x→w.cell? ⟨g,i*2,none⟩=some (.string (txt x.1))∧w.cell? ⟨g,i*2+1,none⟩=some (.string (txt x.2)):=by
 rcases h.2 with ⟨e,h0⟩ | ⟨g,cap,cur,e,hg,_⟩
 ·have:=List.length_pos_iff.2 hl
  omega
 ·injection e with e1 e2 e3
  refine ⟨g,e1,hg,fun i x hx=>?_⟩
  have hc:=h.cells (g:=g) (by rw [e1];rfl)
  obtain ⟨h1,h2⟩:=atc_two l i x hx
  have k1:=hc _ _ h1
  have k2:=hc _ _ h2
  rw [Addr.add_lit,Nat.zero_add] at k1 k2
  exact ⟨k1,k2⟩
theorem pre_get {c k:Nat} {xs:List Nat}:[c] <+: xs.drop k↔k<xs.length∧xs.getD k 0=c:=by
 constructor
 ·intro h
  have hl:=h.length_le
  rw [List.length_drop] at hl
  simp at hl
  have hk:k<xs.length:=by omega
  rw [drop_cons hk] at h
  obtain ⟨t,ht⟩:=pre1.1 h
  injection ht with h1 h2
  exact ⟨hk,h1⟩
 ·rintro ⟨hk,rfl⟩
  exact pre1.2 ⟨_,drop_cons hk⟩
theorem unR_bs {s L:List Nat} (hb:Bs L) (er:Nat):Bs (unR s L er).1∧(unR s L er).1.length≤L.length:=by
 unfold unR
 by_cases he:er=0
 ·rw [if_pos he]
  rcases hi:ix s L with _ | i
  ·exact ⟨Bs.nil,Nat.zero_le _⟩
  ·exact ⟨hb.take i,by rw [List.length_take];omega⟩
 ·rw [if_neg he]
  exact ⟨Bs.nil,Nat.zero_le _⟩
theorem rapd {w wl w4:World} {p:Nat} {xs:List Nat} {kU fr e N:Nat} {acc:List At} {a:Option Addr} {cc:Nat} {x0 x1 sv':Value} (hpw:p<w.heap.size) (ht:Touch (fun i=>i=p) w wl) (hs:Rq wl p xs kU fr e) (ho:wl.ownsRow w.heap.size 60 2 (.slice a N cc) acc.length (atc acc))
  (hA:Apd (wl.alloc (.cells #[x0,x1] 60)) w.heap.size 60 2 (.slice a N cc) (N+1) (atc acc++[x0,x1]) sv' w4) :
  Touch (fun i=>i=p) w w4∧Rq w4 p xs kU fr e∧w4.ownsRow w.heap.size 60 2 sv' (N+1) (atc acc++[x0,x1]):=by
 have hz:=ht.size
 have g2:Below w.heap.size wl w4:=hA.alloc.below ho hz
 refine ⟨ht.trans' (Touch.of_low g2) (fun i hi hlt=>by omega),(hs.below (lit_below wl (.cells #[x0,x1] 60))).touch hA.touch (fun e=>?_),hA.own⟩
 have:=(ho.lt p e).1
 omega
theorem dup_yes {eV e i:Nat} {acc:List At} {nm:List Nat} {x3:At} (htk:acc.take (i+1)=acc.take i++[x3]) (he:e=if eV=0∧nm∈(acc.take i).map Prod.fst then 22 else eV) (h:x3.1=nm) :
  (if e=0 then 22 else e)=if eV=0∧nm∈(acc.take (i+1)).map Prod.fst then 22 else eV:=by
 have hm:nm∈(acc.take (i+1)).map Prod.fst:=by rw [htk,List.map_append];exact List.mem_append_right _ (by simp [h])
 by_cases h0:eV=0
 ·rw [if_pos (show eV=0∧nm∈(acc.take (i+1)).map Prod.fst from And.intro h0 hm)]
  by_cases h1:nm∈(acc.take i).map Prod.fst
  ·rw [if_pos (And.intro h0 h1)] at he
   rw [he];rfl
  ·rw [if_neg (fun h=>h1 (And.right h))] at he
   rw [he,h0];rfl
 ·rw [if_neg (fun h=>h0 (And.left h))] at he
  rw [if_neg (fun h=>h0 (And.left h)),he,if_neg h0]
theorem dup_no {eV e i:Nat} {acc:List At} {nm:List Nat} {x3:At} (htk:acc.take (i+1)=acc.take i++[x3]) (he:e=if eV=0∧nm∈(acc.take i).map Prod.fst then 22 else eV) (h:¬x3.1=nm) :
  e=if eV=0∧nm∈(acc.take (i+1)).map Prod.fst then 22 else eV:=by
 have hm:(nm∈(acc.take (i+1)).map Prod.fst)=(nm∈(acc.take i).map Prod.fst):=by
  rw [htk,List.map_append,List.mem_append]
  apply propext
  constructor
  ·rintro (h1 | h1)
   ·exact h1
   ·simp at h1;exact absurd h1.symm h
  ·exact Or.inl
 rw [he]
 simp only [hm]
def RaTo (p:Nat) (xs:List Nat) (k fr:Nat) (r:Except Nat (List At × Nat)) (w:World) (e:Ending) (w':World):Prop:=
 Touch (fun i=>i=p) w w'∧match r with
  | .error x=>(∃ a n c,e = .returned (.slice a n c))∧x≠0∧∃ k',Rq w' p xs k' fr x
  | .ok (l,m)=>∃ a cc,e = .returned (.slice a l.length cc)∧w'.ownsRow w.heap.size 60 2 (.slice a l.length cc) l.length (atc l)∧Rq w' p xs (k+m) fr 0∧(∀ y∈l,Bs y.1∧Bs y.2)∧l.length≤256
structure RSt (RES:Except Nat (List At × Nat)) (w wr:World) (p:Nat) (xs:List Nat) (k fr:Nat) (acc:List At) (k1 er:Nat) (sv:Value):Prop where
 tch:Touch (fun i=>i=p) w wr
 rq:Rq wr p xs k1 fr er
 own:er=0→wr.ownsRow w.heap.size 60 2 sv acc.length (atc acc)
 len:acc.length≤256
 bss:∀ y∈acc,Bs y.1∧Bs y.2
 ge:k≤k1
 st:er=0→RES=match raA acc (xs.drop k1) with
  | .error e => .error e
  | .ok (l,m) => .ok (l,k1-k+m)
 er:er≠0→RES = .error er
set_option maxHeartbeats 3200000 in
theorem qattrs_err (w:World) (p:Nat) (xs:List Nat) (k fr er:Nat) (he:er≠0) (h:Rq w p xs k fr er) :
  Calls Tryz.prog 54 #[.pointer (some ⟨p,0,none⟩)] w fun e w'=>(∃ a n c,e = .returned (.slice a n c))∧Touch (fun i=>i=p) w w'∧Rq w' p xs k fr er:=by
 have H:=Lib.hid h
 have hb:=lit_below w (.cells #[] 60)
 have c3:=(h.below hb).c3
 have heI:((er:Int) == 0)=false:=beq_eq_false_iff_ne.2 (by omega)
 have heI2:¬(er:Int)=0:=by omega
 have HB:=Lib.hid hb
 clear h hb
 obtain ⟨w0,hw0⟩:∃ W,W=w.alloc (.cells #[] 60):=⟨_,rfl⟩
 rw [←hw0] at c3 HB
 have HW0:=Lib.hid hw0
 go_enter Tryz.func54,Tryz.ntmps54
 go_wp2
 rw [←hw0]
 clear hw0
 go_loopg [3,4,5,6,7,8,9,10] 0 (fun gh s3 _ _ _ _ _ _ _ wr=>wr=w0∧s3 = .slice (some ⟨w.heap.size,0,none⟩) 0 0)
 case atStart=>exact ⟨rfl,rfl⟩
 case round=>
  obtain ⟨rfl,rfl⟩:=hrel
  go_wp2
  go_ret
  exact ⟨⟨_,_,_,rfl⟩,Touch.of_below HB.out,H.out.below HB.out⟩
set_option maxHeartbeats 25600000 in
theorem qattrs_ok (w:World) (p:Nat) (xs:List Nat) (k fr:Nat) (h:Rq w p xs k fr 0) :
  Calls Tryz.prog 54 #[.pointer (some ⟨p,0,none⟩)] w (RaTo p xs k fr (raA [] (xs.drop k)) w):=by
 have H:=Lib.hid h
 have hlen:=h.len
 have HBS:=Lib.hid h.bs
 have hpw:=h.lt
 have hSz:(txt xs).size=xs.length:=txt_size xs
 have HGET:Hid (∀ i (h:i<(txt xs).size),(((txt xs)[i]'h).toNat)=xs.getD i 0):=Lib.hid fun i h=>txt_get xs HBS.out i _
 obtain ⟨S,hS⟩:∃ S,S=txt xs:=⟨_,rfl⟩
 have HSS:=Lib.hid hS
 rw [←hS] at hSz HGET
 have HO0:=Lib.hid (own_empty w 60 2)
 have HB0:=Lib.hid (lit_below w (.cells #[] 60))
 obtain ⟨RES,hRES⟩:∃ RES,RES=raA [] (xs.drop k):=⟨_,rfl⟩
 rw [←hRES]
 have HR0:=Lib.hid hRES
 have HSZ:=Lib.hid hSz
 clear h hS hRES hSz
 go_enter Tryz.func54,Tryz.ntmps54
 go_wp2
 obtain ⟨w0,hw0⟩:∃ W,W=w.alloc (.cells #[] 60):=⟨_,rfl⟩
 rw [←hw0] at HO0 HB0 ⊢
 clear hw0
 go_loopg [3,4,5,6,7,8,9,10] (xs.length+2) (fun gh s3 _ _ _ _ _ _ _ wr=>∃ (acc:List At) (a:Option Addr) (n cc k1 er:Nat),s3 = .slice a n cc∧(er=0→n=acc.length)∧Hid (RSt RES w wr p xs k fr acc k1 er (.slice a n cc))∧(if er=0 then xs.length-k1+1 else 0)≤gh)
 case atStart=>exact ⟨[],_,0,0,k,0,rfl,fun _=>rfl,Lib.hid ⟨Touch.of_below HB0.out,H.out.below HB0.out,fun _=>HO0.out,by decide,(fun y hy=>by cases hy),Nat.le_refl _,(fun _=>by rw [HR0.out,Nat.sub_self];rcases raA [] (xs.drop k) with e | ⟨l,m⟩ <;> simp),fun h=>absurd rfl h⟩,by rw [if_pos rfl];omega⟩
 case round=>
  clear HO0 HB0
  obtain ⟨acc,a,N,cc,k1,er,rfl,hn,hst,hgh⟩:=hrel
  have HST:=hst
  by_cases he:er=0
  ·subst he
   rw [if_pos rfl] at hgh
   have HGH:=Lib.hid hgh
   clear hgh
   have HNN:=Lib.hid (hn rfl)
   have HOWN:=Lib.hid (hst.out.own rfl)
   have HK1L:=Lib.hid hst.out.rq.le
   have HBSS:=Lib.hid hst.out.bss
   have hpr:=hst.out.rq.lt
   have c0:=hst.out.rq.c0
   rw [←HSS.out] at c0
   have c1:=hst.out.rq.c1
   have c3:=hst.out.rq.c3
   have K1:=qblanks wr p xs k1 fr 0 hst.out.rq
   simp only [if_true] at K1
   obtain ⟨n,hn1⟩:∃ n,n=sk blaP (xs.drop k1):=⟨_,rfl⟩
   obtain ⟨k2,hk2⟩:∃ k2,k2=k1+n:=⟨_,rfl⟩
   rw [←hn1,←hk2] at K1
   have K1:=Lib.hid K1
   have HN:=Lib.hid hn1
   have HK2:=Lib.hid hk2
   have hskl:=sk_len blaP_zero (HBS.out.drop k1)
   rw [←hn1,List.length_drop] at hskl
   have HSKL:=Lib.hid (show k2≤xs.length by have:=HK1L.out;omega)
   have HDR:Hid (xs.drop k2=(xs.drop k1).drop n):=Lib.hid (by rw [hk2,List.drop_drop])
   have HSTOP:Hid (stopA (xs.drop k1)↔n=0∨k2=xs.length∨(k2<xs.length∧(xs.getD k2 0=62∨xs.getD k2 0=47∨xs.getD k2 0=63))):=Lib.hid (by
    unfold stopA
    rw [←hn1,←HDR.out,List.drop_eq_nil_iff,pre_get,pre_get,pre_get]
    have:=HSKL.out
    omega)
   clear hst hn hn1 hk2 hskl
   by_cases hn0:n=0
   ·have hbI:((n:Int) == 0)=true:=by rw [hn0];rfl
    have HNS:Hid (stopA (xs.drop k1)):=Lib.hid (HSTOP.out.2 (.inl hn0))
    have HRR:Hid (RES = .ok (acc,k1-k)):=Lib.hid (by rw [HST.out.st rfl,raA_step acc (HBS.out.drop k1),if_pos HNS.out];rfl)
    go_upto_region 5 with (go_at_call 50;(with_reducible refine K1.out.mono ?_);rintro e w1 ⟨rfl,ht1,hs1⟩;have HR1:=Lib.hid ht1;have HS1:=Lib.hid hs1;clear c0 c1 c3;have c0:=hs1.c0;rw [←HSS.out] at c0;have c1:=hs1.c1;have f1:=hs1.free 1;clear ht1 hs1)
    go_quiet (fail)
    go_wp2
    go_ret
    have HTS':Hid (Touch (fun i=>i=p) wr ((w1.drewN nq).setCell ⟨p,1,none⟩ (.int .i64 (k1:Nat)))):=Lib.hid ((HR1.out.drewN nq).trans (touch_set p 1 _ _))
    rw [HRR.out]
    exact ⟨HST.out.tch.trans HTS'.out,a,cc,by rw [HNN.out];rfl,ownsRow_touch (by have:=HOWN.out;rwa [HNN.out] at this) HTS'.out (fun i hi e=>by have:=(HOWN.out.lt i (by rw [HNN.out];exact hi)).1;omega),by rw [show k+(k1-k)=k1 by have:=HST.out.ge;omega];exact (HS1.out.drew nq).set1 k1 HK1L.out,HST.out.bss,HST.out.len⟩
   ·have hbI:((n:Int) == 0)=false:=beq_eq_false_iff_ne.2 (by omega)
    have HN0:=Lib.hid hn0
    clear hn0
    by_cases hk2l:k2=xs.length
    ·have hge:S.size≤k2:=by rw [HSZ.out];omega
     have hged:decide (S.size≤k2)=true:=decide_eq_true hge
     have HKL0:=Lib.hid hk2l
     clear hk2l
     have HNS:Hid (stopA (xs.drop k1)):=Lib.hid (HSTOP.out.2 (.inr (.inl HKL0.out)))
     have HRR:Hid (RES = .ok (acc,k1-k)):=Lib.hid (by rw [HST.out.st rfl,raA_step acc (HBS.out.drop k1),if_pos HNS.out];rfl)
     go_upto_region 5 with (go_at_call 50;(with_reducible refine K1.out.mono ?_);rintro e w1 ⟨rfl,ht1,hs1⟩;have HR1:=Lib.hid ht1;have HS1:=Lib.hid hs1;clear c0 c1 c3;have c0:=hs1.c0;rw [←HSS.out] at c0;have c1:=hs1.c1;have f1:=hs1.free 1;clear ht1 hs1)
     go_quiet (fail)
     go_wp2
     go_ret
     have HTS':Hid (Touch (fun i=>i=p) wr ((w1.drewN nq).setCell ⟨p,1,none⟩ (.int .i64 (k1:Nat)))):=Lib.hid ((HR1.out.drewN nq).trans (touch_set p 1 _ _))
     rw [HRR.out]
     exact ⟨HST.out.tch.trans HTS'.out,a,cc,by rw [HNN.out];rfl,ownsRow_touch (by have:=HOWN.out;rwa [HNN.out] at this) HTS'.out (fun i hi e=>by have:=(HOWN.out.lt i (by rw [HNN.out];exact hi)).1;omega),by rw [show k+(k1-k)=k1 by have:=HST.out.ge;omega];exact (HS1.out.drew nq).set1 k1 HK1L.out,HST.out.bss,HST.out.len⟩
    ·have hk2S:k2<S.size:=by have:=HSKL.out;have:=HSZ.out;omega
     have hk2I:(k2:Int)<S.size:=by omega
     have hged:decide (S.size≤k2)=false:=decide_eq_false (by omega)
     have HK2L:=Lib.hid (show k2<xs.length by have:=HSKL.out;omega)
     clear hk2l
     obtain ⟨x,hx⟩:∃ x:Nat,(S[k2]'hk2S).toNat=x:=⟨_,rfl⟩
     have HX:Hid (xs.getD k2 0=x):=Lib.hid (by rw [←hx];exact (HGET.out k2 hk2S).symm)
     have hidx:=index_at S k2 hk2S x hx
     clear hx hk2S hk2I
     by_cases c62:x=62
     ·have HC:=Lib.hid c62
      subst c62
      have HNS:Hid (stopA (xs.drop k1)):=Lib.hid (HSTOP.out.2 (.inr (.inr ⟨HK2L.out,.inl (by rw [HX.out])⟩)))
      have HRR:Hid (RES = .ok (acc,k1-k)):=Lib.hid (by rw [HST.out.st rfl,raA_step acc (HBS.out.drop k1),if_pos HNS.out];rfl)
      go_upto_region 5 with (go_at_call 50;(with_reducible refine K1.out.mono ?_);rintro e w1 ⟨rfl,ht1,hs1⟩;have HR1:=Lib.hid ht1;have HS1:=Lib.hid hs1;clear c0 c1 c3;have c0:=hs1.c0;rw [←HSS.out] at c0;have c1:=hs1.c1;have f1:=hs1.free 1;clear ht1 hs1)
      go_quiet (fail)
      go_wp2
      go_ret
      have HTS':Hid (Touch (fun i=>i=p) wr ((w1.drewN nq).setCell ⟨p,1,none⟩ (.int .i64 (k1:Nat)))):=Lib.hid ((HR1.out.drewN nq).trans (touch_set p 1 _ _))
      rw [HRR.out]
      exact ⟨HST.out.tch.trans HTS'.out,a,cc,by rw [HNN.out];rfl,ownsRow_touch (by have:=HOWN.out;rwa [HNN.out] at this) HTS'.out (fun i hi e=>by have:=(HOWN.out.lt i (by rw [HNN.out];exact hi)).1;omega),by rw [show k+(k1-k)=k1 by have:=HST.out.ge;omega];exact (HS1.out.drew nq).set1 k1 HK1L.out,HST.out.bss,HST.out.len⟩
     ·have cb62:((x:Int) == 62)=false:=beq_eq_false_iff_ne.2 (by omega)
      have cn62:(x == 62)=false:=beq_eq_false_iff_ne.2 c62
      by_cases c47:x=47
      ·have HC:=Lib.hid c47
       subst c47
       have HNS:Hid (stopA (xs.drop k1)):=Lib.hid (HSTOP.out.2 (.inr (.inr ⟨HK2L.out,.inr (.inl (by rw [HX.out]))⟩)))
       have HRR:Hid (RES = .ok (acc,k1-k)):=Lib.hid (by rw [HST.out.st rfl,raA_step acc (HBS.out.drop k1),if_pos HNS.out];rfl)
       go_upto_region 5 with (go_at_call 50;(with_reducible refine K1.out.mono ?_);rintro e w1 ⟨rfl,ht1,hs1⟩;have HR1:=Lib.hid ht1;have HS1:=Lib.hid hs1;clear c0 c1 c3;have c0:=hs1.c0;rw [←HSS.out] at c0;have c1:=hs1.c1;have f1:=hs1.free 1;clear ht1 hs1)
       go_quiet (fail)
       go_wp2
       go_ret
       have HTS':Hid (Touch (fun i=>i=p) wr ((w1.drewN nq).setCell ⟨p,1,none⟩ (.int .i64 (k1:Nat)))):=Lib.hid ((HR1.out.drewN nq).trans (touch_set p 1 _ _))
       rw [HRR.out]
       exact ⟨HST.out.tch.trans HTS'.out,a,cc,by rw [HNN.out];rfl,ownsRow_touch (by have:=HOWN.out;rwa [HNN.out] at this) HTS'.out (fun i hi e=>by have:=(HOWN.out.lt i (by rw [HNN.out];exact hi)).1;omega),by rw [show k+(k1-k)=k1 by have:=HST.out.ge;omega];exact (HS1.out.drew nq).set1 k1 HK1L.out,HST.out.bss,HST.out.len⟩
      ·have cb47:((x:Int) == 47)=false:=beq_eq_false_iff_ne.2 (by omega)
       have cn47:(x == 47)=false:=beq_eq_false_iff_ne.2 c47
       by_cases c63:x=63
       ·have HC:=Lib.hid c63
        subst c63
        have HNS:Hid (stopA (xs.drop k1)):=Lib.hid (HSTOP.out.2 (.inr (.inr ⟨HK2L.out,.inr (.inr (by rw [HX.out]))⟩)))
        have HRR:Hid (RES = .ok (acc,k1-k)):=Lib.hid (by rw [HST.out.st rfl,raA_step acc (HBS.out.drop k1),if_pos HNS.out];rfl)
        go_upto_region 5 with (go_at_call 50;(with_reducible refine K1.out.mono ?_);rintro e w1 ⟨rfl,ht1,hs1⟩;have HR1:=Lib.hid ht1;have HS1:=Lib.hid hs1;clear c0 c1 c3;have c0:=hs1.c0;rw [←HSS.out] at c0;have c1:=hs1.c1;have f1:=hs1.free 1;clear ht1 hs1)
        go_quiet (fail)
        go_wp2
        go_ret
        have HTS':Hid (Touch (fun i=>i=p) wr ((w1.drewN nq).setCell ⟨p,1,none⟩ (.int .i64 (k1:Nat)))):=Lib.hid ((HR1.out.drewN nq).trans (touch_set p 1 _ _))
        rw [HRR.out]
        exact ⟨HST.out.tch.trans HTS'.out,a,cc,by rw [HNN.out];rfl,ownsRow_touch (by have:=HOWN.out;rwa [HNN.out] at this) HTS'.out (fun i hi e=>by have:=(HOWN.out.lt i (by rw [HNN.out];exact hi)).1;omega),by rw [show k+(k1-k)=k1 by have:=HST.out.ge;omega];exact (HS1.out.drew nq).set1 k1 HK1L.out,HST.out.bss,HST.out.len⟩
       ·have cb63:((x:Int) == 63)=false:=beq_eq_false_iff_ne.2 (by omega)
        have cn63:(x == 63)=false:=beq_eq_false_iff_ne.2 c63
        have HNS:Hid (¬stopA (xs.drop k1)):=Lib.hid (fun h=>by
         have h2:=HSTOP.out.1 h
         rw [HX.out] at h2
         have:=HK2L.out
         have:=HN0.out
         omega)
        have K2:=Lib.hid fun W (h:Rq W p xs k2 fr 0)=>qname W p xs k2 fr 0 h
        have hnb:=nmR_bs (HBS.out.drop k2) 0
        rw [List.length_drop] at hnb
        obtain ⟨nm,n2,e2,hnm⟩:∃ nm n2 e2,nmR (xs.drop k2) 0=(nm,n2,e2):=⟨_,_,_,rfl⟩
        rw [hnm] at K2 hnb
        simp only at K2 hnb
        have HNM:Hid (nmR (xs.drop (k1+n)) 0=(nm,n2,e2)):=Lib.hid (by rw [←HK2.out];exact hnm)
        have HNB:=Lib.hid hnb.1
        obtain ⟨TS,hTS⟩:∃ TS,TS=txt nm:=⟨_,rfl⟩
        have HTS:=Lib.hid hTS
        have hTSz:TS.size≤2000001:=by rw [hTS,txt_size];omega
        rw [←hTS] at K2
        obtain ⟨kA,hkA⟩:∃ kA,kA=k2+n2:=⟨_,rfl⟩
        rw [←hkA] at K2
        have K3:Hid (∀ W,Rq W p xs kA fr e2→Calls Tryz.prog 50 #[.pointer (some ⟨p,0,none⟩)] W (Rs p xs fr (.int .i64 ((bV xs kA e2:Nat):Int)) (dR xs kA e2) e2 W)):=Lib.hid fun W h=>qblanks W p xs kA fr e2 h
        obtain ⟨kB,hkB⟩:∃ kB,kB=dR xs kA e2:=⟨_,rfl⟩
        rw [←hkB] at K3
        have K4:Hid (∀ W,Rq W p xs kB fr e2→Calls Tryz.prog 52 #[.pointer (some ⟨p,0,none⟩),.string ⟨#[61]⟩] W (Rs p xs fr (.tuple #[]) (nK 61 xs kB e2) (nE 61 xs kB e2) W)):=Lib.hid fun W h=>qneed W p xs kB fr e2 [61] ⟨#[61]⟩ rfl (fun x hx=>by simp at hx;omega) (by simp) h
        obtain ⟨kC,hkC⟩:∃ kC,kC=nK 61 xs kB e2:=⟨_,rfl⟩
        obtain ⟨eC,heC⟩:∃ eC,eC=nE 61 xs kB e2:=⟨_,rfl⟩
        rw [←hkC,←heC] at K4
        have K5:Hid (∀ W,Rq W p xs kC fr eC→Calls Tryz.prog 50 #[.pointer (some ⟨p,0,none⟩)] W (Rs p xs fr (.int .i64 ((bV xs kC eC:Nat):Int)) (dR xs kC eC) eC W)):=Lib.hid fun W h=>qblanks W p xs kC fr eC h
        obtain ⟨kD,hkD⟩:∃ kD,kD=dR xs kC eC:=⟨_,rfl⟩
        rw [←hkD] at K5
        have K6:=Lib.hid fun W (h:Rq W p xs kD fr eC)=>qhas W p xs kD fr eC [34] ⟨#[34]⟩ rfl (fun x hx=>by simp at hx;omega) (by simp) h
        by_cases h34:eC=0∧[34] <+: xs.drop kD
        ·obtain ⟨kE,hkE⟩:∃ kE,kE=kD+1:=⟨_,rfl⟩
         have K6:Hid (∀ W,Rq W p xs kD fr eC→Calls Tryz.prog 46 #[.pointer (some ⟨p,0,none⟩),.string ⟨#[34]⟩] W (Rs p xs fr (.bool true) kE 0 W)):=Lib.hid fun W h=>by
          have:=K6.out W h
          rw [decide_eq_true h34,if_pos h34] at this
          rw [hkE]
          have h0:=h34.1
          subst h0
          exact this
         have hQ:vR xs kA e2=qR 34 xs kE 0:=by unfold vR;rw [←hkB,←hkC,←heC,←hkD,if_pos h34,hkE]
         have K8:=Lib.hid fun W (h:Rq W p xs kE fr 0)=>quntil W p xs kE fr 0 [34] ⟨#[34]⟩ rfl (fun x hx=>by simp at hx;omega) (by simp) (by simp) h
         have hub:=unR_bs (s:=[34]) (HBS.out.drop kE) 0
         rw [List.length_drop] at hub
         unfold qR at hQ
         obtain ⟨us,un,ue,hU⟩:∃ us un ue,unR [34] (xs.drop kE) 0=(us,un,ue):=⟨_,_,_,rfl⟩
         rw [hU] at K8 hub hQ
         simp only at K8 hub hQ
         obtain ⟨kU,hkU⟩:∃ kU,kU=kE+un:=⟨_,rfl⟩
         rw [←hkU] at K8 hQ
         obtain ⟨TU0,hTU⟩:∃ TU0,TU0=txt us:=⟨_,rfl⟩
         have KT:=Lib.hid fun W=>rtold_any us TU0 hTU hub.1 true W (by omega)
         rw [←hTU] at K8
         have HKU:Hid (k1≤kU):=Lib.hid (by
          have a1:kA≤kB:=by rw [hkB];unfold dR;omega
          have a2:kB≤kC:=by rw [hkC];unfold nK;split <;> omega
          have a3:kC≤kD:=by rw [hkD];unfold dR;omega
          have a4:kD≤kE:=by rw [hkE];omega
          have a5:=HK2.out
          omega)
         rcases hT:tr true us with _ | vv
         ·rw [hT] at KT hQ
          obtain ⟨eV,heV⟩:∃ eV,eV=if (none:Option (List Nat)).isNone=true∧ue=0 then 22 else ue:=⟨_,rfl⟩
          rw [←heV] at hQ
          have K9:Hid (∀ W,Rq W p xs kU fr ue→Calls Tryz.prog 49 #[.pointer (some ⟨p,0,none⟩),.int .i64 22] W (Rs p xs fr (.tuple #[]) kU eV W)):=Lib.hid fun W h=>by
           have:=qfail W p xs kU fr ue 22 h
           rw [show (if ue=0 then 22 else ue)=eV by rw [heV];simp] at this
           exact this
          obtain ⟨vv,hvv⟩:∃ vv:List Nat,vv=[]:=⟨_,rfl⟩
          rw [show (none:Option (List Nat)).getD []=vv by rw [hvv];rfl] at hQ
          have HVR:Hid (vR xs (k1+n+n2) e2=(vv,kU,eV)):=Lib.hid (by rw [←HK2.out,←hkA];exact hQ)
          obtain ⟨TV,hTV⟩:∃ TV,TV=txt vv:=⟨_,rfl⟩
          have HTV:=Lib.hid hTV
          have hTVe:(⟨#[]⟩:ByteArray)=TV:=by rw [hTV,hvv];rfl
          have KT:Hid (∀ W,Calls Tryz.prog 15 #[.string TU0,.bool true] W fun e w'=>e = .returned (.tuple #[.string TV,.bool false])∧Below W.heap.size W w'):=Lib.hid fun W=>by
           have:=KT.out W
           unfold tdR at this
           simp only at this
           rwa [hTVe] at this
          clear hnm hnb hTS hkA hkB hkC heC hkD h34 hkE hQ hub hU hkU hTU hT heV hTV hTVe hvv
          go_upto_region 5 with (go_at_call 50;(with_reducible refine K1.out.mono ?_);rintro e w1 ⟨rfl,ht1,hs1⟩;have HR1:=Lib.hid ht1;have HS1:=Lib.hid hs1;clear c0 c1 c3;have c0:=hs1.c0;rw [←HSS.out] at c0;have c1:=hs1.c1;have f1:=hs1.free 1;clear ht1 hs1)
          go_quiet (fail)
          go_wp2_with (first
           | (go_at_call 53;(with_reducible refine (K2.out _ (HS1.out.drew _)).mono ?_);rintro e w2 ⟨rfl,ht2,hs2⟩;have HR2:=Lib.hid ((HR1.out.drewN _).trans ht2);have HS2:=Lib.hid hs2;clear ht2 hs2)
           | (go_at_call 50;(with_reducible refine (K3.out _ (HS2.out.below (lit_below w2 _))).mono ?_);rintro e w3 ⟨rfl,ht3,hs3⟩;have HR3:=Lib.hid ((HR2.out.trans (Touch.of_below (lit_below w2 _))).trans ht3);have HK3:=Lib.hid ((Blk.made w2 60 #[.string TS,.string ⟨#[]⟩]).touch ht3 (show ¬(w2.heap.size=p) by have:=HR2.out.size;omega));have HS3:=Lib.hid hs3;clear ht3 hs3)
           | (go_at_call 52;(with_reducible refine (K4.out w3 HS3.out).mono ?_);rintro e w4 ⟨rfl,ht4,hs4⟩;have HR4:=Lib.hid (HR3.out.trans ht4);have HK4:=Lib.hid (HK3.out.touch ht4 (show ¬(w2.heap.size=p) by have:=HR2.out.size;omega));have HS4:=Lib.hid hs4;clear ht4 hs4)
           | (go_at_call 50;(with_reducible refine (K5.out w4 HS4.out).mono ?_);rintro e w5 ⟨rfl,ht5,hs5⟩;have HR5:=Lib.hid (HR4.out.trans ht5);have HK5:=Lib.hid (HK4.out.touch ht5 (show ¬(w2.heap.size=p) by have:=HR2.out.size;omega));have HS5:=Lib.hid hs5;clear ht5 hs5)
           | (go_at_call 46;(with_reducible refine (K6.out w5 HS5.out).mono ?_);rintro e w6 ⟨rfl,ht6,hs6⟩;have HR6:=Lib.hid (HR5.out.trans ht6);have HK6:=Lib.hid (HK5.out.touch ht6 (show ¬(w2.heap.size=p) by have:=HR2.out.size;omega));have HS6:=Lib.hid hs6;clear ht6 hs6)
           | (go_at_call 51;(with_reducible refine (K8.out w6 HS6.out).mono ?_);rintro e w8 ⟨rfl,ht8,hs8⟩;have HR8:=Lib.hid (HR6.out.trans ht8);have HK8:=Lib.hid (HK6.out.touch ht8 (show ¬(w2.heap.size=p) by have:=HR2.out.size;omega));have HS8:=Lib.hid hs8;clear ht8 hs8)
           | (go_at_call 15;(with_reducible refine (KT.out w8).mono ?_);rintro e w9 ⟨rfl,hb9⟩;have HR9:=Lib.hid (HR8.out.trans (Touch.of_below hb9));have HS9:=Lib.hid (HS8.out.below hb9);have HK9:=Lib.hid (HK8.out.below hb9);have fk:=HK9.out.free 1;have kc:=(HK9.out.cell 1).trans (show _=some (.string ⟨#[]⟩) from rfl);clear hb9)
           | (go_at_call 49;(with_reducible refine (K9.out w9 HS9.out).mono ?_);rintro e w10 ⟨rfl,ht10,hs10⟩;have HR10:=Lib.hid (HR9.out.trans ht10);have HK10:=Lib.hid (HK9.out.touch ht10 (show ¬(w2.heap.size=p) by have:=HR2.out.size;omega));have HS10:=Lib.hid hs10;clear ht10 hs10;clear fk kc;have fk:=HK10.out.free 1;have kc:=(HK10.out.cell 1).trans (show _=some (.string ⟨#[]⟩) from rfl)))
          have hN256l:N≤256:=by rw [HNN.out];exact HST.out.len
          obtain ⟨g,hg⟩:∃ g,g=w2.heap.size:=⟨_,rfl⟩
          have hgw:wr.heap.size≤g:=by have:=HR2.out.size;omega
          have HKX:=HK10
          rw [←hg] at HKX ⊢
          obtain ⟨wS,hwS⟩:∃ W,W=w10.setCell ⟨g,1,none⟩ (.string TV):=⟨_,rfl⟩
          have HRS:Hid (Touch (fun i=>i=p) wr wS):=Lib.hid (by rw [hwS];exact HR10.out.setCell ⟨g,1,none⟩ _ (.inr hgw))
          have HSS2:Hid (Rq wS p xs kU fr eV):=Lib.hid (by rw [hwS];exact HS10.out.touch (touch_set g 1 w10 _) (show ¬(p=g) by omega))
          have HKS:Hid (Blk wS g 60 #[.string TS,.string TV]):=Lib.hid (by rw [hwS];exact HKX.out.setCell 1 _)
          rw [←hwS]
          clear hwS HKX hg fk kc
          go_loopg [10] N (fun gh s10 wl=>∃ (i e:Nat),s10 = .int .i64 (i:Nat)∧N-i≤gh∧i≤N∧Hid (Touch (fun i=>i=p) wS wl)∧Hid (Rq wl p xs kU fr e)∧Hid (e=if eV=0∧nm∈(acc.take i).map Prod.fst then 22 else eV))
          case atStart=>exact ⟨0,eV,rfl,by omega,Nat.zero_le _,Lib.hid (Touch.refl _ _),HSS2,Lib.hid (by simp)⟩
          case round=>
           obtain ⟨i,e,rfl,hgh3,hiN,ht9,hs9,he9⟩:=hrel
           have HOL:Hid (wr.ownsRow w.heap.size 60 2 (.slice a N cc) acc.length (atc acc)):=Lib.hid (ownsRow_touch HOWN.out (HRS.out.trans ht9.out) (fun i hi e=>by have:=(HOWN.out.lt i hi).1;omega))
           have HKL:Hid (Blk wr g 60 #[.string TS,.string TV]):=Lib.hid (HKS.out.touch ht9.out (show ¬(g=p) by omega))
           have k0:=(HKL.out.cell 0).trans (show _=some (.string TS) from rfl)
           have k1':=(HKL.out.cell 1).trans (show _=some (.string TV) from rfl)
           by_cases hlt3:i<N
           ·have hia:i<acc.length:=by rw [←HNN.out];exact hlt3
            have hltI3:(i:Int)<N:=by omega
            have hne3:acc≠[]:=fun e=>by rw [e] at hia;simp at hia
            obtain ⟨ga,rfl,hga,hcs⟩:=row60 HOL.out hne3
            obtain ⟨x3,hx3⟩:∃ x3,acc[i]? = some x3:=⟨acc[i],List.getElem?_eq_getElem hia⟩
            have d0:=(hcs i x3 hx3).1
            have htk:acc.take (i+1)=acc.take i++[x3]:=by rw [List.take_add_one,hx3];rfl
            by_cases heq:x3.1=nm
            ·rw [heq,←HTS.out] at d0
             have HE9:Hid ((if e=0 then 22 else e)=if eV=0∧nm∈(acc.take (i+1)).map Prod.fst then 22 else eV):=Lib.hid (dup_yes htk he9.out heq)
             have KF3:Hid (∀ W,Rq W p xs kU fr e→Calls Tryz.prog 49 #[.pointer (some ⟨p,0,none⟩),.int .i64 22] W (Rs p xs fr (.tuple #[]) kU (if e=0 then 22 else e) W)):=Lib.hid fun W h=>qfail W p xs kU fr e 22 h
             clear hcs htk hx3 hne3
             go_upto_region 23 with fail
             go_quiet (fail)
             go_wp2_with (go_at_call 49;(with_reducible refine (KF3.out _ (hs9.out.drew _)).mono ?_);rintro e4 w4' ⟨rfl,ht4,hs4⟩;have HT4:=Lib.hid ((ht9.out.drewN _).trans ht4);have HS4:=Lib.hid hs4;clear ht4 hs4)
             go_roundg (N-(i+1))
             case measure=>omega
             case rel=>exact ⟨i+1,_,by go_num,by omega,by omega,HT4,HS4,HE9⟩
            ·have hbx:=(HBSS.out x3 (List.mem_of_getElem? hx3)).1
             have hl1:(txt x3.1).toList≠TS.toList:=by
              rw [HTS.out,txt_toList,txt_toList]
              exact fun e=>heq (u8L_inj hbx HNB.out e)
             have hl2:((txt x3.1).toList == TS.toList)=false:=beq_eq_false_iff_ne.2 hl1
             have HE9:Hid (e=if eV=0∧nm∈(acc.take (i+1)).map Prod.fst then 22 else eV):=Lib.hid (dup_no htk he9.out heq)
             generalize txt x3.1=T3 at d0 hl1 hl2
             clear hcs htk hx3 hne3 hbx
             go_upto_region 23 with fail
             go_quiet (fail)
             go_wp2
             go_roundg (N-(i+1))
             case measure=>omega
             case rel=>exact ⟨i+1,e,by go_num,by omega,by omega,Lib.hid (ht9.out.drewN _),Lib.hid (hs9.out.drew _),HE9⟩
           ·have hiN2:i=N:=by omega
            have hltI3:¬(i:Int)<N:=by omega
            have HE9:Hid (e=if eV=0∧nm∈acc.map Prod.fst then 22 else eV):=Lib.hid (by rw [he9.out,hiN2,HNN.out,List.take_length])
            obtain ⟨e10,he10⟩:∃ e10,e10=if e=0∧256<acc.length+1 then 14 else e:=⟨_,rfl⟩
            have HRD:=Lib.hid (ra_round HBS.out HST.out.ge HK1L.out (HST.out.st rfl) HNS.out HN.out HNM.out HVR.out HE9.out he10)
            have HE10:=Lib.hid he10
            have K14:Hid (∀ W,Rq W p xs kU fr e→Calls Tryz.prog 49 #[.pointer (some ⟨p,0,none⟩),.int .i64 14] W (Rs p xs fr (.tuple #[]) kU (if e=0 then 14 else e) W)):=Lib.hid fun W h=>qfail W p xs kU fr e 14 h
            have HOA:=Lib.hid (ownsRow_below HOL.out (lit_below wr (.cells #[.string TS,.string TV] 60)))
            have hzl:w.heap.size≤wr.heap.size:=by have h1:=HST.out.tch.size;have h2:=HRS.out.size;have h3:=ht9.out.size;omega
            have HTL:Hid (Touch (fun i=>i=p) w wr):=Lib.hid (HST.out.tch.trans (HRS.out.trans ht9.out))
            have hapd:=Lib.hid fun (sv':Value) (w4:World) (hA:Apd (wr.alloc (.cells #[.string TS,.string TV] 60)) w.heap.size 60 2 (.slice a N cc) (N+1) (atc acc++[.string TS,.string TV]) sv' w4)=>rapd hpw HTL.out hs9.out HOL.out hA
            rw [←HNN.out] at HOA he10
            clear he10
            by_cases h256:256<N+1
            ·have hI256:(256:Int)<N+1:=by omega
             have hwN:IntKind.i64.wrap ((N:Int)+1)=((N+1:Nat):Int):=by rw [IntKind.wrap_i64];omega
             have HE10':Hid ((if e=0 then 14 else e)=e10):=Lib.hid (by
              rw [HE10.out]
              by_cases h0:e=0
              ·rw [if_pos h0,if_pos ⟨h0,by rw [←HNN.out];exact h256⟩]
              ·rw [if_neg h0,if_neg (fun h=>h0 h.1)])
             have HNZ:Hid (e10≠0):=Lib.hid (by rw [←HE10'.out];split <;> omega)
             go_wp2_with (first
              | (at_builtin;refine wpList_append_x at56 rfl (.tmp 123) (.tmp 125) rfl w.heap.size (.slice a N cc) (.slice (some ⟨wr.heap.size,0,none⟩) 1 1) N 1 (atc acc) [.string TS,.string TV] rfl rfl HOA.out (cells_two _ _ _ _) rfl (by intro u hu;simp at hu;rcases hu with rfl | rfl <;> rfl) (by rw [alloc_size];omega) (by omega) (by omega) ?_;intro a2 c2 w12 hA;have HA:=Lib.hid (hapd.out _ _ hA);clear hA)
              | (go_at_call 49;(with_reducible refine (K14.out _ HA.out.2.1).mono ?_);rintro e4 w13 ⟨rfl,ht4,hs4⟩;have HT4:=Lib.hid (HA.out.1.trans ht4);have HS4:=Lib.hid hs4;clear ht4 hs4))
             all_goals try (exfalso;omega)
             have hgh:=HGH.out
             go_roundg 0
             case measure=>omega
             case rel=>exact ⟨acc,a2,N+1,c2,kU,e10,rfl,fun h=>absurd h HNZ.out,Lib.hid ⟨HT4.out,by have:=HS4.out;rwa [HE10'.out] at this,fun h=>absurd h HNZ.out,HST.out.len,HST.out.bss,by have:=HST.out.ge;have:=HKU.out;omega,fun h=>absurd h HNZ.out,fun h=>HRD.out.2 h⟩,by rw [if_neg HNZ.out];omega⟩
            ·have hI256:¬(256:Int)<N+1:=by omega
             have hwN:IntKind.i64.wrap ((N:Int)+1)=((N+1:Nat):Int):=by rw [IntKind.wrap_i64];omega
             have HE10':Hid (e=e10):=Lib.hid (by
              rw [HE10.out,if_neg (fun h=>h256 (by rw [HNN.out];exact h.2))])
             go_wp2_with (at_builtin;refine wpList_append_x at56 rfl (.tmp 123) (.tmp 125) rfl w.heap.size (.slice a N cc) (.slice (some ⟨wr.heap.size,0,none⟩) 1 1) N 1 (atc acc) [.string TS,.string TV] rfl rfl HOA.out (cells_two _ _ _ _) rfl (by intro u hu;simp at hu;rcases hu with rfl | rfl <;> rfl) (by rw [alloc_size];omega) (by omega) (by omega) ?_;intro a2 c2 w12 hA;have HA:=Lib.hid (hapd.out _ _ hA);clear hA)
             all_goals try (exfalso;omega)
             have hgh:=HGH.out
             go_roundg (if e10=0 then xs.length-kU+1 else 0)
             case measure=>
              by_cases h0:e10=0
              ·rw [if_pos h0];have:=(HRD.out.1 h0).2;omega
              ·rw [if_neg h0];omega
             case rel=>
              by_cases h0:e10=0
              ·have hrd:=HRD.out.1 h0
               have hl:(acc++[(nm,vv)]).length=N+1:=by rw [List.length_append,←HNN.out];rfl
               refine ⟨acc++[(nm,vv)],a2,N+1,c2,kU,e10,rfl,fun _=>hl.symm,Lib.hid ⟨HA.out.1,by have:=HA.out.2.1;rwa [HE10'.out] at this,fun _=>?_,by rw [hl];have:=hrd.2.2.2.2.2;have:=HNN.out;omega,?_,by have:=HST.out.ge;omega,fun _=>hrd.1,fun h=>absurd h0 h⟩,Nat.le_refl _⟩
               ·rw [hl,atc_app,atc_one]
                have:=HA.out.2.2
                rw [HTS.out,HTV.out] at this
                exact this
               ·intro y hy
                rcases List.mem_append.1 hy with hy | hy
                ·exact HST.out.bss y hy
                ·rw [List.mem_singleton] at hy;subst hy;exact ⟨hrd.2.2.2.1,hrd.2.2.2.2.1⟩
              ·exact ⟨acc,a2,N+1,c2,kU,e10,rfl,fun h=>absurd h h0,Lib.hid ⟨HA.out.1,by have:=HA.out.2.1;rwa [HE10'.out] at this,fun h=>absurd h h0,HST.out.len,HST.out.bss,by have:=HST.out.ge;have:=HKU.out;omega,fun h=>absurd h h0,fun h=>HRD.out.2 h⟩,Nat.le_refl _⟩
         ·rw [hT] at KT hQ
          rw [show (some vv:Option (List Nat)).getD []=vv from rfl,if_neg (fun h=>by cases h.1)] at hQ
          obtain ⟨eV,heV⟩:∃ eV,eV=ue:=⟨_,rfl⟩
          rw [←heV] at hQ K8
          have HVR:Hid (vR xs (k1+n+n2) e2=(vv,kU,eV)):=Lib.hid (by rw [←HK2.out,←hkA];exact hQ)
          obtain ⟨TV,hTV⟩:∃ TV,TV=txt vv:=⟨_,rfl⟩
          have HTV:=Lib.hid hTV
          have KT:Hid (∀ W,Calls Tryz.prog 15 #[.string TU0,.bool true] W fun e w'=>e = .returned (.tuple #[.string TV,.bool true])∧Below W.heap.size W w'):=Lib.hid fun W=>by
           have:=KT.out W
           unfold tdR at this
           simp only at this
           rwa [←hTV] at this
          clear hnm hnb hTS hkA hkB hkC heC hkD h34 hkE hQ hub hU hkU hTU hT heV hTV
          go_upto_region 5 with (go_at_call 50;(with_reducible refine K1.out.mono ?_);rintro e w1 ⟨rfl,ht1,hs1⟩;have HR1:=Lib.hid ht1;have HS1:=Lib.hid hs1;clear c0 c1 c3;have c0:=hs1.c0;rw [←HSS.out] at c0;have c1:=hs1.c1;have f1:=hs1.free 1;clear ht1 hs1)
          go_quiet (fail)
          go_wp2_with (first
           | (go_at_call 53;(with_reducible refine (K2.out _ (HS1.out.drew _)).mono ?_);rintro e w2 ⟨rfl,ht2,hs2⟩;have HR2:=Lib.hid ((HR1.out.drewN _).trans ht2);have HS2:=Lib.hid hs2;clear ht2 hs2)
           | (go_at_call 50;(with_reducible refine (K3.out _ (HS2.out.below (lit_below w2 _))).mono ?_);rintro e w3 ⟨rfl,ht3,hs3⟩;have HR3:=Lib.hid ((HR2.out.trans (Touch.of_below (lit_below w2 _))).trans ht3);have HK3:=Lib.hid ((Blk.made w2 60 #[.string TS,.string ⟨#[]⟩]).touch ht3 (show ¬(w2.heap.size=p) by have:=HR2.out.size;omega));have HS3:=Lib.hid hs3;clear ht3 hs3)
           | (go_at_call 52;(with_reducible refine (K4.out w3 HS3.out).mono ?_);rintro e w4 ⟨rfl,ht4,hs4⟩;have HR4:=Lib.hid (HR3.out.trans ht4);have HK4:=Lib.hid (HK3.out.touch ht4 (show ¬(w2.heap.size=p) by have:=HR2.out.size;omega));have HS4:=Lib.hid hs4;clear ht4 hs4)
           | (go_at_call 50;(with_reducible refine (K5.out w4 HS4.out).mono ?_);rintro e w5 ⟨rfl,ht5,hs5⟩;have HR5:=Lib.hid (HR4.out.trans ht5);have HK5:=Lib.hid (HK4.out.touch ht5 (show ¬(w2.heap.size=p) by have:=HR2.out.size;omega));have HS5:=Lib.hid hs5;clear ht5 hs5)
           | (go_at_call 46;(with_reducible refine (K6.out w5 HS5.out).mono ?_);rintro e w6 ⟨rfl,ht6,hs6⟩;have HR6:=Lib.hid (HR5.out.trans ht6);have HK6:=Lib.hid (HK5.out.touch ht6 (show ¬(w2.heap.size=p) by have:=HR2.out.size;omega));have HS6:=Lib.hid hs6;clear ht6 hs6)
           | (go_at_call 51;(with_reducible refine (K8.out w6 HS6.out).mono ?_);rintro e w8 ⟨rfl,ht8,hs8⟩;have HR8:=Lib.hid (HR6.out.trans ht8);have HK8:=Lib.hid (HK6.out.touch ht8 (show ¬(w2.heap.size=p) by have:=HR2.out.size;omega));have HS8:=Lib.hid hs8;clear ht8 hs8)
           | (go_at_call 15;(with_reducible refine (KT.out w8).mono ?_);rintro e w9 ⟨rfl,hb9⟩;have HR9:=Lib.hid (HR8.out.trans (Touch.of_below hb9));have HS9:=Lib.hid (HS8.out.below hb9);have HK9:=Lib.hid (HK8.out.below hb9);have fk:=HK9.out.free 1;have kc:=(HK9.out.cell 1).trans (show _=some (.string ⟨#[]⟩) from rfl);clear hb9))
          have hN256l:N≤256:=by rw [HNN.out];exact HST.out.len
          obtain ⟨g,hg⟩:∃ g,g=w2.heap.size:=⟨_,rfl⟩
          have hgw:wr.heap.size≤g:=by have:=HR2.out.size;omega
          have HKX:=HK9
          rw [←hg] at HKX ⊢
          obtain ⟨wS,hwS⟩:∃ W,W=w9.setCell ⟨g,1,none⟩ (.string TV):=⟨_,rfl⟩
          have HRS:Hid (Touch (fun i=>i=p) wr wS):=Lib.hid (by rw [hwS];exact HR9.out.setCell ⟨g,1,none⟩ _ (.inr hgw))
          have HSS2:Hid (Rq wS p xs kU fr eV):=Lib.hid (by rw [hwS];exact HS9.out.touch (touch_set g 1 w9 _) (show ¬(p=g) by omega))
          have HKS:Hid (Blk wS g 60 #[.string TS,.string TV]):=Lib.hid (by rw [hwS];exact HKX.out.setCell 1 _)
          rw [←hwS]
          clear hwS HKX hg fk kc
          go_loopg [10] N (fun gh s10 wl=>∃ (i e:Nat),s10 = .int .i64 (i:Nat)∧N-i≤gh∧i≤N∧Hid (Touch (fun i=>i=p) wS wl)∧Hid (Rq wl p xs kU fr e)∧Hid (e=if eV=0∧nm∈(acc.take i).map Prod.fst then 22 else eV))
          case atStart=>exact ⟨0,eV,rfl,by omega,Nat.zero_le _,Lib.hid (Touch.refl _ _),HSS2,Lib.hid (by simp)⟩
          case round=>
           obtain ⟨i,e,rfl,hgh3,hiN,ht9,hs9,he9⟩:=hrel
           have HOL:Hid (wr.ownsRow w.heap.size 60 2 (.slice a N cc) acc.length (atc acc)):=Lib.hid (ownsRow_touch HOWN.out (HRS.out.trans ht9.out) (fun i hi e=>by have:=(HOWN.out.lt i hi).1;omega))
           have HKL:Hid (Blk wr g 60 #[.string TS,.string TV]):=Lib.hid (HKS.out.touch ht9.out (show ¬(g=p) by omega))
           have k0:=(HKL.out.cell 0).trans (show _=some (.string TS) from rfl)
           have k1':=(HKL.out.cell 1).trans (show _=some (.string TV) from rfl)
           by_cases hlt3:i<N
           ·have hia:i<acc.length:=by rw [←HNN.out];exact hlt3
            have hltI3:(i:Int)<N:=by omega
            have hne3:acc≠[]:=fun e=>by rw [e] at hia;simp at hia
            obtain ⟨ga,rfl,hga,hcs⟩:=row60 HOL.out hne3
            obtain ⟨x3,hx3⟩:∃ x3,acc[i]? = some x3:=⟨acc[i],List.getElem?_eq_getElem hia⟩
            have d0:=(hcs i x3 hx3).1
            have htk:acc.take (i+1)=acc.take i++[x3]:=by rw [List.take_add_one,hx3];rfl
            by_cases heq:x3.1=nm
            ·rw [heq,←HTS.out] at d0
             have HE9:Hid ((if e=0 then 22 else e)=if eV=0∧nm∈(acc.take (i+1)).map Prod.fst then 22 else eV):=Lib.hid (dup_yes htk he9.out heq)
             have KF3:Hid (∀ W,Rq W p xs kU fr e→Calls Tryz.prog 49 #[.pointer (some ⟨p,0,none⟩),.int .i64 22] W (Rs p xs fr (.tuple #[]) kU (if e=0 then 22 else e) W)):=Lib.hid fun W h=>qfail W p xs kU fr e 22 h
             clear hcs htk hx3 hne3
             go_upto_region 23 with fail
             go_quiet (fail)
             go_wp2_with (go_at_call 49;(with_reducible refine (KF3.out _ (hs9.out.drew _)).mono ?_);rintro e4 w4' ⟨rfl,ht4,hs4⟩;have HT4:=Lib.hid ((ht9.out.drewN _).trans ht4);have HS4:=Lib.hid hs4;clear ht4 hs4)
             go_roundg (N-(i+1))
             case measure=>omega
             case rel=>exact ⟨i+1,_,by go_num,by omega,by omega,HT4,HS4,HE9⟩
            ·have hbx:=(HBSS.out x3 (List.mem_of_getElem? hx3)).1
             have hl1:(txt x3.1).toList≠TS.toList:=by
              rw [HTS.out,txt_toList,txt_toList]
              exact fun e=>heq (u8L_inj hbx HNB.out e)
             have hl2:((txt x3.1).toList == TS.toList)=false:=beq_eq_false_iff_ne.2 hl1
             have HE9:Hid (e=if eV=0∧nm∈(acc.take (i+1)).map Prod.fst then 22 else eV):=Lib.hid (dup_no htk he9.out heq)
             generalize txt x3.1=T3 at d0 hl1 hl2
             clear hcs htk hx3 hne3 hbx
             go_upto_region 23 with fail
             go_quiet (fail)
             go_wp2
             go_roundg (N-(i+1))
             case measure=>omega
             case rel=>exact ⟨i+1,e,by go_num,by omega,by omega,Lib.hid (ht9.out.drewN _),Lib.hid (hs9.out.drew _),HE9⟩
           ·have hiN2:i=N:=by omega
            have hltI3:¬(i:Int)<N:=by omega
            have HE9:Hid (e=if eV=0∧nm∈acc.map Prod.fst then 22 else eV):=Lib.hid (by rw [he9.out,hiN2,HNN.out,List.take_length])
            obtain ⟨e10,he10⟩:∃ e10,e10=if e=0∧256<acc.length+1 then 14 else e:=⟨_,rfl⟩
            have HRD:=Lib.hid (ra_round HBS.out HST.out.ge HK1L.out (HST.out.st rfl) HNS.out HN.out HNM.out HVR.out HE9.out he10)
            have HE10:=Lib.hid he10
            have K14:Hid (∀ W,Rq W p xs kU fr e→Calls Tryz.prog 49 #[.pointer (some ⟨p,0,none⟩),.int .i64 14] W (Rs p xs fr (.tuple #[]) kU (if e=0 then 14 else e) W)):=Lib.hid fun W h=>qfail W p xs kU fr e 14 h
            have HOA:=Lib.hid (ownsRow_below HOL.out (lit_below wr (.cells #[.string TS,.string TV] 60)))
            have hzl:w.heap.size≤wr.heap.size:=by have h1:=HST.out.tch.size;have h2:=HRS.out.size;have h3:=ht9.out.size;omega
            have HTL:Hid (Touch (fun i=>i=p) w wr):=Lib.hid (HST.out.tch.trans (HRS.out.trans ht9.out))
            have hapd:=Lib.hid fun (sv':Value) (w4:World) (hA:Apd (wr.alloc (.cells #[.string TS,.string TV] 60)) w.heap.size 60 2 (.slice a N cc) (N+1) (atc acc++[.string TS,.string TV]) sv' w4)=>rapd hpw HTL.out hs9.out HOL.out hA
            rw [←HNN.out] at HOA he10
            clear he10
            by_cases h256:256<N+1
            ·have hI256:(256:Int)<N+1:=by omega
             have hwN:IntKind.i64.wrap ((N:Int)+1)=((N+1:Nat):Int):=by rw [IntKind.wrap_i64];omega
             have HE10':Hid ((if e=0 then 14 else e)=e10):=Lib.hid (by
              rw [HE10.out]
              by_cases h0:e=0
              ·rw [if_pos h0,if_pos ⟨h0,by rw [←HNN.out];exact h256⟩]
              ·rw [if_neg h0,if_neg (fun h=>h0 h.1)])
             have HNZ:Hid (e10≠0):=Lib.hid (by rw [←HE10'.out];split <;> omega)
             go_wp2_with (first
              | (at_builtin;refine wpList_append_x at56 rfl (.tmp 123) (.tmp 125) rfl w.heap.size (.slice a N cc) (.slice (some ⟨wr.heap.size,0,none⟩) 1 1) N 1 (atc acc) [.string TS,.string TV] rfl rfl HOA.out (cells_two _ _ _ _) rfl (by intro u hu;simp at hu;rcases hu with rfl | rfl <;> rfl) (by rw [alloc_size];omega) (by omega) (by omega) ?_;intro a2 c2 w12 hA;have HA:=Lib.hid (hapd.out _ _ hA);clear hA)
              | (go_at_call 49;(with_reducible refine (K14.out _ HA.out.2.1).mono ?_);rintro e4 w13 ⟨rfl,ht4,hs4⟩;have HT4:=Lib.hid (HA.out.1.trans ht4);have HS4:=Lib.hid hs4;clear ht4 hs4))
             all_goals try (exfalso;omega)
             have hgh:=HGH.out
             go_roundg 0
             case measure=>omega
             case rel=>exact ⟨acc,a2,N+1,c2,kU,e10,rfl,fun h=>absurd h HNZ.out,Lib.hid ⟨HT4.out,by have:=HS4.out;rwa [HE10'.out] at this,fun h=>absurd h HNZ.out,HST.out.len,HST.out.bss,by have:=HST.out.ge;have:=HKU.out;omega,fun h=>absurd h HNZ.out,fun h=>HRD.out.2 h⟩,by rw [if_neg HNZ.out];omega⟩
            ·have hI256:¬(256:Int)<N+1:=by omega
             have hwN:IntKind.i64.wrap ((N:Int)+1)=((N+1:Nat):Int):=by rw [IntKind.wrap_i64];omega
             have HE10':Hid (e=e10):=Lib.hid (by
              rw [HE10.out,if_neg (fun h=>h256 (by rw [HNN.out];exact h.2))])
             go_wp2_with (at_builtin;refine wpList_append_x at56 rfl (.tmp 123) (.tmp 125) rfl w.heap.size (.slice a N cc) (.slice (some ⟨wr.heap.size,0,none⟩) 1 1) N 1 (atc acc) [.string TS,.string TV] rfl rfl HOA.out (cells_two _ _ _ _) rfl (by intro u hu;simp at hu;rcases hu with rfl | rfl <;> rfl) (by rw [alloc_size];omega) (by omega) (by omega) ?_;intro a2 c2 w12 hA;have HA:=Lib.hid (hapd.out _ _ hA);clear hA)
             all_goals try (exfalso;omega)
             have hgh:=HGH.out
             go_roundg (if e10=0 then xs.length-kU+1 else 0)
             case measure=>
              by_cases h0:e10=0
              ·rw [if_pos h0];have:=(HRD.out.1 h0).2;omega
              ·rw [if_neg h0];omega
             case rel=>
              by_cases h0:e10=0
              ·have hrd:=HRD.out.1 h0
               have hl:(acc++[(nm,vv)]).length=N+1:=by rw [List.length_append,←HNN.out];rfl
               refine ⟨acc++[(nm,vv)],a2,N+1,c2,kU,e10,rfl,fun _=>hl.symm,Lib.hid ⟨HA.out.1,by have:=HA.out.2.1;rwa [HE10'.out] at this,fun _=>?_,by rw [hl];have:=hrd.2.2.2.2.2;have:=HNN.out;omega,?_,by have:=HST.out.ge;omega,fun _=>hrd.1,fun h=>absurd h0 h⟩,Nat.le_refl _⟩
               ·rw [hl,atc_app,atc_one]
                have:=HA.out.2.2
                rw [HTS.out,HTV.out] at this
                exact this
               ·intro y hy
                rcases List.mem_append.1 hy with hy | hy
                ·exact HST.out.bss y hy
                ·rw [List.mem_singleton] at hy;subst hy;exact ⟨hrd.2.2.2.1,hrd.2.2.2.2.1⟩
              ·exact ⟨acc,a2,N+1,c2,kU,e10,rfl,fun h=>absurd h h0,Lib.hid ⟨HA.out.1,by have:=HA.out.2.1;rwa [HE10'.out] at this,fun h=>absurd h h0,HST.out.len,HST.out.bss,by have:=HST.out.ge;have:=HKU.out;omega,fun h=>absurd h h0,fun h=>HRD.out.2 h⟩,Nat.le_refl _⟩
        ·have K6:Hid (∀ W,Rq W p xs kD fr eC→Calls Tryz.prog 46 #[.pointer (some ⟨p,0,none⟩),.string ⟨#[34]⟩] W (Rs p xs fr (.bool false) kD eC W)):=Lib.hid fun W h=>by
          have:=K6.out W h
          rw [decide_eq_false h34,if_neg h34] at this
          exact this
         have K7:Hid (∀ W,Rq W p xs kD fr eC→Calls Tryz.prog 52 #[.pointer (some ⟨p,0,none⟩),.string ⟨#[39]⟩] W (Rs p xs fr (.tuple #[]) (nK 39 xs kD eC) (nE 39 xs kD eC) W)):=Lib.hid fun W h=>qneed W p xs kD fr eC [39] ⟨#[39]⟩ rfl (fun x hx=>by simp at hx;omega) (by simp) h
         obtain ⟨kE,hkE⟩:∃ kE,kE=nK 39 xs kD eC:=⟨_,rfl⟩
         obtain ⟨eE,heE⟩:∃ eE,eE=nE 39 xs kD eC:=⟨_,rfl⟩
         rw [←hkE,←heE] at K7
         have hQ:vR xs kA e2=qR 39 xs kE eE:=by unfold vR;rw [←hkB,←hkC,←heC,←hkD,if_neg h34,←hkE,←heE]
         have K8:=Lib.hid fun W (h:Rq W p xs kE fr eE)=>quntil W p xs kE fr eE [39] ⟨#[39]⟩ rfl (fun x hx=>by simp at hx;omega) (by simp) (by simp) h
         have hub:=unR_bs (s:=[39]) (HBS.out.drop kE) eE
         rw [List.length_drop] at hub
         unfold qR at hQ
         obtain ⟨us,un,ue,hU⟩:∃ us un ue,unR [39] (xs.drop kE) eE=(us,un,ue):=⟨_,_,_,rfl⟩
         rw [hU] at K8 hub hQ
         simp only at K8 hub hQ
         obtain ⟨kU,hkU⟩:∃ kU,kU=kE+un:=⟨_,rfl⟩
         rw [←hkU] at K8 hQ
         obtain ⟨TU0,hTU⟩:∃ TU0,TU0=txt us:=⟨_,rfl⟩
         have KT:=Lib.hid fun W=>rtold_any us TU0 hTU hub.1 true W (by omega)
         rw [←hTU] at K8
         have HKU:Hid (k1≤kU):=Lib.hid (by
          have a1:kA≤kB:=by rw [hkB];unfold dR;omega
          have a2:kB≤kC:=by rw [hkC];unfold nK;split <;> omega
          have a3:kC≤kD:=by rw [hkD];unfold dR;omega
          have a4:kD≤kE:=by rw [hkE];unfold nK;split <;> omega
          have a5:=HK2.out
          omega)
         rcases hT:tr true us with _ | vv
         ·rw [hT] at KT hQ
          obtain ⟨eV,heV⟩:∃ eV,eV=if (none:Option (List Nat)).isNone=true∧ue=0 then 22 else ue:=⟨_,rfl⟩
          rw [←heV] at hQ
          have K9:Hid (∀ W,Rq W p xs kU fr ue→Calls Tryz.prog 49 #[.pointer (some ⟨p,0,none⟩),.int .i64 22] W (Rs p xs fr (.tuple #[]) kU eV W)):=Lib.hid fun W h=>by
           have:=qfail W p xs kU fr ue 22 h
           rw [show (if ue=0 then 22 else ue)=eV by rw [heV];simp] at this
           exact this
          obtain ⟨vv,hvv⟩:∃ vv:List Nat,vv=[]:=⟨_,rfl⟩
          rw [show (none:Option (List Nat)).getD []=vv by rw [hvv];rfl] at hQ
          have HVR:Hid (vR xs (k1+n+n2) e2=(vv,kU,eV)):=Lib.hid (by rw [←HK2.out,←hkA];exact hQ)
          obtain ⟨TV,hTV⟩:∃ TV,TV=txt vv:=⟨_,rfl⟩
          have HTV:=Lib.hid hTV
          have hTVe:(⟨#[]⟩:ByteArray)=TV:=by rw [hTV,hvv];rfl
          have KT:Hid (∀ W,Calls Tryz.prog 15 #[.string TU0,.bool true] W fun e w'=>e = .returned (.tuple #[.string TV,.bool false])∧Below W.heap.size W w'):=Lib.hid fun W=>by
           have:=KT.out W
           unfold tdR at this
           simp only at this
           rwa [hTVe] at this
          clear hnm hnb hTS hkA hkB hkC heC hkD h34 hkE heE hQ hub hU hkU hTU hT heV hTV hTVe hvv
          go_upto_region 5 with (go_at_call 50;(with_reducible refine K1.out.mono ?_);rintro e w1 ⟨rfl,ht1,hs1⟩;have HR1:=Lib.hid ht1;have HS1:=Lib.hid hs1;clear c0 c1 c3;have c0:=hs1.c0;rw [←HSS.out] at c0;have c1:=hs1.c1;have f1:=hs1.free 1;clear ht1 hs1)
          go_quiet (fail)
          go_wp2_with (first
           | (go_at_call 53;(with_reducible refine (K2.out _ (HS1.out.drew _)).mono ?_);rintro e w2 ⟨rfl,ht2,hs2⟩;have HR2:=Lib.hid ((HR1.out.drewN _).trans ht2);have HS2:=Lib.hid hs2;clear ht2 hs2)
           | (go_at_call 50;(with_reducible refine (K3.out _ (HS2.out.below (lit_below w2 _))).mono ?_);rintro e w3 ⟨rfl,ht3,hs3⟩;have HR3:=Lib.hid ((HR2.out.trans (Touch.of_below (lit_below w2 _))).trans ht3);have HK3:=Lib.hid ((Blk.made w2 60 #[.string TS,.string ⟨#[]⟩]).touch ht3 (show ¬(w2.heap.size=p) by have:=HR2.out.size;omega));have HS3:=Lib.hid hs3;clear ht3 hs3)
           | (go_at_call 52;(with_reducible refine (K4.out w3 HS3.out).mono ?_);rintro e w4 ⟨rfl,ht4,hs4⟩;have HR4:=Lib.hid (HR3.out.trans ht4);have HK4:=Lib.hid (HK3.out.touch ht4 (show ¬(w2.heap.size=p) by have:=HR2.out.size;omega));have HS4:=Lib.hid hs4;clear ht4 hs4)
           | (go_at_call 50;(with_reducible refine (K5.out w4 HS4.out).mono ?_);rintro e w5 ⟨rfl,ht5,hs5⟩;have HR5:=Lib.hid (HR4.out.trans ht5);have HK5:=Lib.hid (HK4.out.touch ht5 (show ¬(w2.heap.size=p) by have:=HR2.out.size;omega));have HS5:=Lib.hid hs5;clear ht5 hs5)
           | (go_at_call 46;(with_reducible refine (K6.out w5 HS5.out).mono ?_);rintro e w6 ⟨rfl,ht6,hs6⟩;have HR6:=Lib.hid (HR5.out.trans ht6);have HK6:=Lib.hid (HK5.out.touch ht6 (show ¬(w2.heap.size=p) by have:=HR2.out.size;omega));have HS6:=Lib.hid hs6;clear ht6 hs6)
           | (go_at_call 52;(with_reducible refine (K7.out w6 HS6.out).mono ?_);rintro e w7 ⟨rfl,ht7,hs7⟩;have HR7:=Lib.hid (HR6.out.trans ht7);have HK7:=Lib.hid (HK6.out.touch ht7 (show ¬(w2.heap.size=p) by have:=HR2.out.size;omega));have HS7:=Lib.hid hs7;clear ht7 hs7)
           | (go_at_call 51;(with_reducible refine (K8.out w7 HS7.out).mono ?_);rintro e w8 ⟨rfl,ht8,hs8⟩;have HR8:=Lib.hid (HR7.out.trans ht8);have HK8:=Lib.hid (HK7.out.touch ht8 (show ¬(w2.heap.size=p) by have:=HR2.out.size;omega));have HS8:=Lib.hid hs8;clear ht8 hs8)
           | (go_at_call 15;(with_reducible refine (KT.out w8).mono ?_);rintro e w9 ⟨rfl,hb9⟩;have HR9:=Lib.hid (HR8.out.trans (Touch.of_below hb9));have HS9:=Lib.hid (HS8.out.below hb9);have HK9:=Lib.hid (HK8.out.below hb9);have fk:=HK9.out.free 1;have kc:=(HK9.out.cell 1).trans (show _=some (.string ⟨#[]⟩) from rfl);clear hb9)
           | (go_at_call 49;(with_reducible refine (K9.out w9 HS9.out).mono ?_);rintro e w10 ⟨rfl,ht10,hs10⟩;have HR10:=Lib.hid (HR9.out.trans ht10);have HK10:=Lib.hid (HK9.out.touch ht10 (show ¬(w2.heap.size=p) by have:=HR2.out.size;omega));have HS10:=Lib.hid hs10;clear ht10 hs10;clear fk kc;have fk:=HK10.out.free 1;have kc:=(HK10.out.cell 1).trans (show _=some (.string ⟨#[]⟩) from rfl)))
          have hN256l:N≤256:=by rw [HNN.out];exact HST.out.len
          obtain ⟨g,hg⟩:∃ g,g=w2.heap.size:=⟨_,rfl⟩
          have hgw:wr.heap.size≤g:=by have:=HR2.out.size;omega
          have HKX:=HK10
          rw [←hg] at HKX ⊢
          obtain ⟨wS,hwS⟩:∃ W,W=w10.setCell ⟨g,1,none⟩ (.string TV):=⟨_,rfl⟩
          have HRS:Hid (Touch (fun i=>i=p) wr wS):=Lib.hid (by rw [hwS];exact HR10.out.setCell ⟨g,1,none⟩ _ (.inr hgw))
          have HSS2:Hid (Rq wS p xs kU fr eV):=Lib.hid (by rw [hwS];exact HS10.out.touch (touch_set g 1 w10 _) (show ¬(p=g) by omega))
          have HKS:Hid (Blk wS g 60 #[.string TS,.string TV]):=Lib.hid (by rw [hwS];exact HKX.out.setCell 1 _)
          rw [←hwS]
          clear hwS HKX hg fk kc
          go_loopg [10] N (fun gh s10 wl=>∃ (i e:Nat),s10 = .int .i64 (i:Nat)∧N-i≤gh∧i≤N∧Hid (Touch (fun i=>i=p) wS wl)∧Hid (Rq wl p xs kU fr e)∧Hid (e=if eV=0∧nm∈(acc.take i).map Prod.fst then 22 else eV))
          case atStart=>exact ⟨0,eV,rfl,by omega,Nat.zero_le _,Lib.hid (Touch.refl _ _),HSS2,Lib.hid (by simp)⟩
          case round=>
           obtain ⟨i,e,rfl,hgh3,hiN,ht9,hs9,he9⟩:=hrel
           have HOL:Hid (wr.ownsRow w.heap.size 60 2 (.slice a N cc) acc.length (atc acc)):=Lib.hid (ownsRow_touch HOWN.out (HRS.out.trans ht9.out) (fun i hi e=>by have:=(HOWN.out.lt i hi).1;omega))
           have HKL:Hid (Blk wr g 60 #[.string TS,.string TV]):=Lib.hid (HKS.out.touch ht9.out (show ¬(g=p) by omega))
           have k0:=(HKL.out.cell 0).trans (show _=some (.string TS) from rfl)
           have k1':=(HKL.out.cell 1).trans (show _=some (.string TV) from rfl)
           by_cases hlt3:i<N
           ·have hia:i<acc.length:=by rw [←HNN.out];exact hlt3
            have hltI3:(i:Int)<N:=by omega
            have hne3:acc≠[]:=fun e=>by rw [e] at hia;simp at hia
            obtain ⟨ga,rfl,hga,hcs⟩:=row60 HOL.out hne3
            obtain ⟨x3,hx3⟩:∃ x3,acc[i]? = some x3:=⟨acc[i],List.getElem?_eq_getElem hia⟩
            have d0:=(hcs i x3 hx3).1
            have htk:acc.take (i+1)=acc.take i++[x3]:=by rw [List.take_add_one,hx3];rfl
            by_cases heq:x3.1=nm
            ·rw [heq,←HTS.out] at d0
             have HE9:Hid ((if e=0 then 22 else e)=if eV=0∧nm∈(acc.take (i+1)).map Prod.fst then 22 else eV):=Lib.hid (dup_yes htk he9.out heq)
             have KF3:Hid (∀ W,Rq W p xs kU fr e→Calls Tryz.prog 49 #[.pointer (some ⟨p,0,none⟩),.int .i64 22] W (Rs p xs fr (.tuple #[]) kU (if e=0 then 22 else e) W)):=Lib.hid fun W h=>qfail W p xs kU fr e 22 h
             clear hcs htk hx3 hne3
             go_upto_region 23 with fail
             go_quiet (fail)
             go_wp2_with (go_at_call 49;(with_reducible refine (KF3.out _ (hs9.out.drew _)).mono ?_);rintro e4 w4' ⟨rfl,ht4,hs4⟩;have HT4:=Lib.hid ((ht9.out.drewN _).trans ht4);have HS4:=Lib.hid hs4;clear ht4 hs4)
             go_roundg (N-(i+1))
             case measure=>omega
             case rel=>exact ⟨i+1,_,by go_num,by omega,by omega,HT4,HS4,HE9⟩
            ·have hbx:=(HBSS.out x3 (List.mem_of_getElem? hx3)).1
             have hl1:(txt x3.1).toList≠TS.toList:=by
              rw [HTS.out,txt_toList,txt_toList]
              exact fun e=>heq (u8L_inj hbx HNB.out e)
             have hl2:((txt x3.1).toList == TS.toList)=false:=beq_eq_false_iff_ne.2 hl1
             have HE9:Hid (e=if eV=0∧nm∈(acc.take (i+1)).map Prod.fst then 22 else eV):=Lib.hid (dup_no htk he9.out heq)
             generalize txt x3.1=T3 at d0 hl1 hl2
             clear hcs htk hx3 hne3 hbx
             go_upto_region 23 with fail
             go_quiet (fail)
             go_wp2
             go_roundg (N-(i+1))
             case measure=>omega
             case rel=>exact ⟨i+1,e,by go_num,by omega,by omega,Lib.hid (ht9.out.drewN _),Lib.hid (hs9.out.drew _),HE9⟩
           ·have hiN2:i=N:=by omega
            have hltI3:¬(i:Int)<N:=by omega
            have HE9:Hid (e=if eV=0∧nm∈acc.map Prod.fst then 22 else eV):=Lib.hid (by rw [he9.out,hiN2,HNN.out,List.take_length])
            obtain ⟨e10,he10⟩:∃ e10,e10=if e=0∧256<acc.length+1 then 14 else e:=⟨_,rfl⟩
            have HRD:=Lib.hid (ra_round HBS.out HST.out.ge HK1L.out (HST.out.st rfl) HNS.out HN.out HNM.out HVR.out HE9.out he10)
            have HE10:=Lib.hid he10
            have K14:Hid (∀ W,Rq W p xs kU fr e→Calls Tryz.prog 49 #[.pointer (some ⟨p,0,none⟩),.int .i64 14] W (Rs p xs fr (.tuple #[]) kU (if e=0 then 14 else e) W)):=Lib.hid fun W h=>qfail W p xs kU fr e 14 h
            have HOA:=Lib.hid (ownsRow_below HOL.out (lit_below wr (.cells #[.string TS,.string TV] 60)))
            have hzl:w.heap.size≤wr.heap.size:=by have h1:=HST.out.tch.size;have h2:=HRS.out.size;have h3:=ht9.out.size;omega
            have HTL:Hid (Touch (fun i=>i=p) w wr):=Lib.hid (HST.out.tch.trans (HRS.out.trans ht9.out))
            have hapd:=Lib.hid fun (sv':Value) (w4:World) (hA:Apd (wr.alloc (.cells #[.string TS,.string TV] 60)) w.heap.size 60 2 (.slice a N cc) (N+1) (atc acc++[.string TS,.string TV]) sv' w4)=>rapd hpw HTL.out hs9.out HOL.out hA
            rw [←HNN.out] at HOA he10
            clear he10
            by_cases h256:256<N+1
            ·have hI256:(256:Int)<N+1:=by omega
             have hwN:IntKind.i64.wrap ((N:Int)+1)=((N+1:Nat):Int):=by rw [IntKind.wrap_i64];omega
             have HE10':Hid ((if e=0 then 14 else e)=e10):=Lib.hid (by
              rw [HE10.out]
              by_cases h0:e=0
              ·rw [if_pos h0,if_pos ⟨h0,by rw [←HNN.out];exact h256⟩]
              ·rw [if_neg h0,if_neg (fun h=>h0 h.1)])
             have HNZ:Hid (e10≠0):=Lib.hid (by rw [←HE10'.out];split <;> omega)
             go_wp2_with (first
              | (at_builtin;refine wpList_append_x at56 rfl (.tmp 123) (.tmp 125) rfl w.heap.size (.slice a N cc) (.slice (some ⟨wr.heap.size,0,none⟩) 1 1) N 1 (atc acc) [.string TS,.string TV] rfl rfl HOA.out (cells_two _ _ _ _) rfl (by intro u hu;simp at hu;rcases hu with rfl | rfl <;> rfl) (by rw [alloc_size];omega) (by omega) (by omega) ?_;intro a2 c2 w12 hA;have HA:=Lib.hid (hapd.out _ _ hA);clear hA)
              | (go_at_call 49;(with_reducible refine (K14.out _ HA.out.2.1).mono ?_);rintro e4 w13 ⟨rfl,ht4,hs4⟩;have HT4:=Lib.hid (HA.out.1.trans ht4);have HS4:=Lib.hid hs4;clear ht4 hs4))
             all_goals try (exfalso;omega)
             have hgh:=HGH.out
             go_roundg 0
             case measure=>omega
             case rel=>exact ⟨acc,a2,N+1,c2,kU,e10,rfl,fun h=>absurd h HNZ.out,Lib.hid ⟨HT4.out,by have:=HS4.out;rwa [HE10'.out] at this,fun h=>absurd h HNZ.out,HST.out.len,HST.out.bss,by have:=HST.out.ge;have:=HKU.out;omega,fun h=>absurd h HNZ.out,fun h=>HRD.out.2 h⟩,by rw [if_neg HNZ.out];omega⟩
            ·have hI256:¬(256:Int)<N+1:=by omega
             have hwN:IntKind.i64.wrap ((N:Int)+1)=((N+1:Nat):Int):=by rw [IntKind.wrap_i64];omega
             have HE10':Hid (e=e10):=Lib.hid (by
              rw [HE10.out,if_neg (fun h=>h256 (by rw [HNN.out];exact h.2))])
             go_wp2_with (at_builtin;refine wpList_append_x at56 rfl (.tmp 123) (.tmp 125) rfl w.heap.size (.slice a N cc) (.slice (some ⟨wr.heap.size,0,none⟩) 1 1) N 1 (atc acc) [.string TS,.string TV] rfl rfl HOA.out (cells_two _ _ _ _) rfl (by intro u hu;simp at hu;rcases hu with rfl | rfl <;> rfl) (by rw [alloc_size];omega) (by omega) (by omega) ?_;intro a2 c2 w12 hA;have HA:=Lib.hid (hapd.out _ _ hA);clear hA)
             all_goals try (exfalso;omega)
             have hgh:=HGH.out
             go_roundg (if e10=0 then xs.length-kU+1 else 0)
             case measure=>
              by_cases h0:e10=0
              ·rw [if_pos h0];have:=(HRD.out.1 h0).2;omega
              ·rw [if_neg h0];omega
             case rel=>
              by_cases h0:e10=0
              ·have hrd:=HRD.out.1 h0
               have hl:(acc++[(nm,vv)]).length=N+1:=by rw [List.length_append,←HNN.out];rfl
               refine ⟨acc++[(nm,vv)],a2,N+1,c2,kU,e10,rfl,fun _=>hl.symm,Lib.hid ⟨HA.out.1,by have:=HA.out.2.1;rwa [HE10'.out] at this,fun _=>?_,by rw [hl];have:=hrd.2.2.2.2.2;have:=HNN.out;omega,?_,by have:=HST.out.ge;omega,fun _=>hrd.1,fun h=>absurd h0 h⟩,Nat.le_refl _⟩
               ·rw [hl,atc_app,atc_one]
                have:=HA.out.2.2
                rw [HTS.out,HTV.out] at this
                exact this
               ·intro y hy
                rcases List.mem_append.1 hy with hy | hy
                ·exact HST.out.bss y hy
                ·rw [List.mem_singleton] at hy;subst hy;exact ⟨hrd.2.2.2.1,hrd.2.2.2.2.1⟩
              ·exact ⟨acc,a2,N+1,c2,kU,e10,rfl,fun h=>absurd h h0,Lib.hid ⟨HA.out.1,by have:=HA.out.2.1;rwa [HE10'.out] at this,fun h=>absurd h h0,HST.out.len,HST.out.bss,by have:=HST.out.ge;have:=HKU.out;omega,fun h=>absurd h h0,fun h=>HRD.out.2 h⟩,Nat.le_refl _⟩
         ·rw [hT] at KT hQ
          rw [show (some vv:Option (List Nat)).getD []=vv from rfl,if_neg (fun h=>by cases h.1)] at hQ
          obtain ⟨eV,heV⟩:∃ eV,eV=ue:=⟨_,rfl⟩
          rw [←heV] at hQ K8
          have HVR:Hid (vR xs (k1+n+n2) e2=(vv,kU,eV)):=Lib.hid (by rw [←HK2.out,←hkA];exact hQ)
          obtain ⟨TV,hTV⟩:∃ TV,TV=txt vv:=⟨_,rfl⟩
          have HTV:=Lib.hid hTV
          have KT:Hid (∀ W,Calls Tryz.prog 15 #[.string TU0,.bool true] W fun e w'=>e = .returned (.tuple #[.string TV,.bool true])∧Below W.heap.size W w'):=Lib.hid fun W=>by
           have:=KT.out W
           unfold tdR at this
           simp only at this
           rwa [←hTV] at this
          clear hnm hnb hTS hkA hkB hkC heC hkD h34 hkE heE hQ hub hU hkU hTU hT heV hTV
          go_upto_region 5 with (go_at_call 50;(with_reducible refine K1.out.mono ?_);rintro e w1 ⟨rfl,ht1,hs1⟩;have HR1:=Lib.hid ht1;have HS1:=Lib.hid hs1;clear c0 c1 c3;have c0:=hs1.c0;rw [←HSS.out] at c0;have c1:=hs1.c1;have f1:=hs1.free 1;clear ht1 hs1)
          go_quiet (fail)
          go_wp2_with (first
           | (go_at_call 53;(with_reducible refine (K2.out _ (HS1.out.drew _)).mono ?_);rintro e w2 ⟨rfl,ht2,hs2⟩;have HR2:=Lib.hid ((HR1.out.drewN _).trans ht2);have HS2:=Lib.hid hs2;clear ht2 hs2)
           | (go_at_call 50;(with_reducible refine (K3.out _ (HS2.out.below (lit_below w2 _))).mono ?_);rintro e w3 ⟨rfl,ht3,hs3⟩;have HR3:=Lib.hid ((HR2.out.trans (Touch.of_below (lit_below w2 _))).trans ht3);have HK3:=Lib.hid ((Blk.made w2 60 #[.string TS,.string ⟨#[]⟩]).touch ht3 (show ¬(w2.heap.size=p) by have:=HR2.out.size;omega));have HS3:=Lib.hid hs3;clear ht3 hs3)
           | (go_at_call 52;(with_reducible refine (K4.out w3 HS3.out).mono ?_);rintro e w4 ⟨rfl,ht4,hs4⟩;have HR4:=Lib.hid (HR3.out.trans ht4);have HK4:=Lib.hid (HK3.out.touch ht4 (show ¬(w2.heap.size=p) by have:=HR2.out.size;omega));have HS4:=Lib.hid hs4;clear ht4 hs4)
           | (go_at_call 50;(with_reducible refine (K5.out w4 HS4.out).mono ?_);rintro e w5 ⟨rfl,ht5,hs5⟩;have HR5:=Lib.hid (HR4.out.trans ht5);have HK5:=Lib.hid (HK4.out.touch ht5 (show ¬(w2.heap.size=p) by have:=HR2.out.size;omega));have HS5:=Lib.hid hs5;clear ht5 hs5)
           | (go_at_call 46;(with_reducible refine (K6.out w5 HS5.out).mono ?_);rintro e w6 ⟨rfl,ht6,hs6⟩;have HR6:=Lib.hid (HR5.out.trans ht6);have HK6:=Lib.hid (HK5.out.touch ht6 (show ¬(w2.heap.size=p) by have:=HR2.out.size;omega));have HS6:=Lib.hid hs6;clear ht6 hs6)
           | (go_at_call 52;(with_reducible refine (K7.out w6 HS6.out).mono ?_);rintro e w7 ⟨rfl,ht7,hs7⟩;have HR7:=Lib.hid (HR6.out.trans ht7);have HK7:=Lib.hid (HK6.out.touch ht7 (show ¬(w2.heap.size=p) by have:=HR2.out.size;omega));have HS7:=Lib.hid hs7;clear ht7 hs7)
           | (go_at_call 51;(with_reducible refine (K8.out w7 HS7.out).mono ?_);rintro e w8 ⟨rfl,ht8,hs8⟩;have HR8:=Lib.hid (HR7.out.trans ht8);have HK8:=Lib.hid (HK7.out.touch ht8 (show ¬(w2.heap.size=p) by have:=HR2.out.size;omega));have HS8:=Lib.hid hs8;clear ht8 hs8)
           | (go_at_call 15;(with_reducible refine (KT.out w8).mono ?_);rintro e w9 ⟨rfl,hb9⟩;have HR9:=Lib.hid (HR8.out.trans (Touch.of_below hb9));have HS9:=Lib.hid (HS8.out.below hb9);have HK9:=Lib.hid (HK8.out.below hb9);have fk:=HK9.out.free 1;have kc:=(HK9.out.cell 1).trans (show _=some (.string ⟨#[]⟩) from rfl);clear hb9))
          have hN256l:N≤256:=by rw [HNN.out];exact HST.out.len
          obtain ⟨g,hg⟩:∃ g,g=w2.heap.size:=⟨_,rfl⟩
          have hgw:wr.heap.size≤g:=by have:=HR2.out.size;omega
          have HKX:=HK9
          rw [←hg] at HKX ⊢
          obtain ⟨wS,hwS⟩:∃ W,W=w9.setCell ⟨g,1,none⟩ (.string TV):=⟨_,rfl⟩
          have HRS:Hid (Touch (fun i=>i=p) wr wS):=Lib.hid (by rw [hwS];exact HR9.out.setCell ⟨g,1,none⟩ _ (.inr hgw))
          have HSS2:Hid (Rq wS p xs kU fr eV):=Lib.hid (by rw [hwS];exact HS9.out.touch (touch_set g 1 w9 _) (show ¬(p=g) by omega))
          have HKS:Hid (Blk wS g 60 #[.string TS,.string TV]):=Lib.hid (by rw [hwS];exact HKX.out.setCell 1 _)
          rw [←hwS]
          clear hwS HKX hg fk kc
          go_loopg [10] N (fun gh s10 wl=>∃ (i e:Nat),s10 = .int .i64 (i:Nat)∧N-i≤gh∧i≤N∧Hid (Touch (fun i=>i=p) wS wl)∧Hid (Rq wl p xs kU fr e)∧Hid (e=if eV=0∧nm∈(acc.take i).map Prod.fst then 22 else eV))
          case atStart=>exact ⟨0,eV,rfl,by omega,Nat.zero_le _,Lib.hid (Touch.refl _ _),HSS2,Lib.hid (by simp)⟩
          case round=>
           obtain ⟨i,e,rfl,hgh3,hiN,ht9,hs9,he9⟩:=hrel
           have HOL:Hid (wr.ownsRow w.heap.size 60 2 (.slice a N cc) acc.length (atc acc)):=Lib.hid (ownsRow_touch HOWN.out (HRS.out.trans ht9.out) (fun i hi e=>by have:=(HOWN.out.lt i hi).1;omega))
           have HKL:Hid (Blk wr g 60 #[.string TS,.string TV]):=Lib.hid (HKS.out.touch ht9.out (show ¬(g=p) by omega))
           have k0:=(HKL.out.cell 0).trans (show _=some (.string TS) from rfl)
           have k1':=(HKL.out.cell 1).trans (show _=some (.string TV) from rfl)
           by_cases hlt3:i<N
           ·have hia:i<acc.length:=by rw [←HNN.out];exact hlt3
            have hltI3:(i:Int)<N:=by omega
            have hne3:acc≠[]:=fun e=>by rw [e] at hia;simp at hia
            obtain ⟨ga,rfl,hga,hcs⟩:=row60 HOL.out hne3
            obtain ⟨x3,hx3⟩:∃ x3,acc[i]? = some x3:=⟨acc[i],List.getElem?_eq_getElem hia⟩
            have d0:=(hcs i x3 hx3).1
            have htk:acc.take (i+1)=acc.take i++[x3]:=by rw [List.take_add_one,hx3];rfl
            by_cases heq:x3.1=nm
            ·rw [heq,←HTS.out] at d0
             have HE9:Hid ((if e=0 then 22 else e)=if eV=0∧nm∈(acc.take (i+1)).map Prod.fst then 22 else eV):=Lib.hid (dup_yes htk he9.out heq)
             have KF3:Hid (∀ W,Rq W p xs kU fr e→Calls Tryz.prog 49 #[.pointer (some ⟨p,0,none⟩),.int .i64 22] W (Rs p xs fr (.tuple #[]) kU (if e=0 then 22 else e) W)):=Lib.hid fun W h=>qfail W p xs kU fr e 22 h
             clear hcs htk hx3 hne3
             go_upto_region 23 with fail
             go_quiet (fail)
             go_wp2_with (go_at_call 49;(with_reducible refine (KF3.out _ (hs9.out.drew _)).mono ?_);rintro e4 w4' ⟨rfl,ht4,hs4⟩;have HT4:=Lib.hid ((ht9.out.drewN _).trans ht4);have HS4:=Lib.hid hs4;clear ht4 hs4)
             go_roundg (N-(i+1))
             case measure=>omega
             case rel=>exact ⟨i+1,_,by go_num,by omega,by omega,HT4,HS4,HE9⟩
            ·have hbx:=(HBSS.out x3 (List.mem_of_getElem? hx3)).1
             have hl1:(txt x3.1).toList≠TS.toList:=by
              rw [HTS.out,txt_toList,txt_toList]
              exact fun e=>heq (u8L_inj hbx HNB.out e)
             have hl2:((txt x3.1).toList == TS.toList)=false:=beq_eq_false_iff_ne.2 hl1
             have HE9:Hid (e=if eV=0∧nm∈(acc.take (i+1)).map Prod.fst then 22 else eV):=Lib.hid (dup_no htk he9.out heq)
             generalize txt x3.1=T3 at d0 hl1 hl2
             clear hcs htk hx3 hne3 hbx
             go_upto_region 23 with fail
             go_quiet (fail)
             go_wp2
             go_roundg (N-(i+1))
             case measure=>omega
             case rel=>exact ⟨i+1,e,by go_num,by omega,by omega,Lib.hid (ht9.out.drewN _),Lib.hid (hs9.out.drew _),HE9⟩
           ·have hiN2:i=N:=by omega
            have hltI3:¬(i:Int)<N:=by omega
            have HE9:Hid (e=if eV=0∧nm∈acc.map Prod.fst then 22 else eV):=Lib.hid (by rw [he9.out,hiN2,HNN.out,List.take_length])
            obtain ⟨e10,he10⟩:∃ e10,e10=if e=0∧256<acc.length+1 then 14 else e:=⟨_,rfl⟩
            have HRD:=Lib.hid (ra_round HBS.out HST.out.ge HK1L.out (HST.out.st rfl) HNS.out HN.out HNM.out HVR.out HE9.out he10)
            have HE10:=Lib.hid he10
            have K14:Hid (∀ W,Rq W p xs kU fr e→Calls Tryz.prog 49 #[.pointer (some ⟨p,0,none⟩),.int .i64 14] W (Rs p xs fr (.tuple #[]) kU (if e=0 then 14 else e) W)):=Lib.hid fun W h=>qfail W p xs kU fr e 14 h
            have HOA:=Lib.hid (ownsRow_below HOL.out (lit_below wr (.cells #[.string TS,.string TV] 60)))
            have hzl:w.heap.size≤wr.heap.size:=by have h1:=HST.out.tch.size;have h2:=HRS.out.size;have h3:=ht9.out.size;omega
            have HTL:Hid (Touch (fun i=>i=p) w wr):=Lib.hid (HST.out.tch.trans (HRS.out.trans ht9.out))
            have hapd:=Lib.hid fun (sv':Value) (w4:World) (hA:Apd (wr.alloc (.cells #[.string TS,.string TV] 60)) w.heap.size 60 2 (.slice a N cc) (N+1) (atc acc++[.string TS,.string TV]) sv' w4)=>rapd hpw HTL.out hs9.out HOL.out hA
            rw [←HNN.out] at HOA he10
            clear he10
            by_cases h256:256<N+1
            ·have hI256:(256:Int)<N+1:=by omega
             have hwN:IntKind.i64.wrap ((N:Int)+1)=((N+1:Nat):Int):=by rw [IntKind.wrap_i64];omega
             have HE10':Hid ((if e=0 then 14 else e)=e10):=Lib.hid (by
              rw [HE10.out]
              by_cases h0:e=0
              ·rw [if_pos h0,if_pos ⟨h0,by rw [←HNN.out];exact h256⟩]
              ·rw [if_neg h0,if_neg (fun h=>h0 h.1)])
             have HNZ:Hid (e10≠0):=Lib.hid (by rw [←HE10'.out];split <;> omega)
             go_wp2_with (first
              | (at_builtin;refine wpList_append_x at56 rfl (.tmp 123) (.tmp 125) rfl w.heap.size (.slice a N cc) (.slice (some ⟨wr.heap.size,0,none⟩) 1 1) N 1 (atc acc) [.string TS,.string TV] rfl rfl HOA.out (cells_two _ _ _ _) rfl (by intro u hu;simp at hu;rcases hu with rfl | rfl <;> rfl) (by rw [alloc_size];omega) (by omega) (by omega) ?_;intro a2 c2 w12 hA;have HA:=Lib.hid (hapd.out _ _ hA);clear hA)
              | (go_at_call 49;(with_reducible refine (K14.out _ HA.out.2.1).mono ?_);rintro e4 w13 ⟨rfl,ht4,hs4⟩;have HT4:=Lib.hid (HA.out.1.trans ht4);have HS4:=Lib.hid hs4;clear ht4 hs4))
             all_goals try (exfalso;omega)
             have hgh:=HGH.out
             go_roundg 0
             case measure=>omega
             case rel=>exact ⟨acc,a2,N+1,c2,kU,e10,rfl,fun h=>absurd h HNZ.out,Lib.hid ⟨HT4.out,by have:=HS4.out;rwa [HE10'.out] at this,fun h=>absurd h HNZ.out,HST.out.len,HST.out.bss,by have:=HST.out.ge;have:=HKU.out;omega,fun h=>absurd h HNZ.out,fun h=>HRD.out.2 h⟩,by rw [if_neg HNZ.out];omega⟩
            ·have hI256:¬(256:Int)<N+1:=by omega
             have hwN:IntKind.i64.wrap ((N:Int)+1)=((N+1:Nat):Int):=by rw [IntKind.wrap_i64];omega
             have HE10':Hid (e=e10):=Lib.hid (by
              rw [HE10.out,if_neg (fun h=>h256 (by rw [HNN.out];exact h.2))])
             go_wp2_with (at_builtin;refine wpList_append_x at56 rfl (.tmp 123) (.tmp 125) rfl w.heap.size (.slice a N cc) (.slice (some ⟨wr.heap.size,0,none⟩) 1 1) N 1 (atc acc) [.string TS,.string TV] rfl rfl HOA.out (cells_two _ _ _ _) rfl (by intro u hu;simp at hu;rcases hu with rfl | rfl <;> rfl) (by rw [alloc_size];omega) (by omega) (by omega) ?_;intro a2 c2 w12 hA;have HA:=Lib.hid (hapd.out _ _ hA);clear hA)
             all_goals try (exfalso;omega)
             have hgh:=HGH.out
             go_roundg (if e10=0 then xs.length-kU+1 else 0)
             case measure=>
              by_cases h0:e10=0
              ·rw [if_pos h0];have:=(HRD.out.1 h0).2;omega
              ·rw [if_neg h0];omega
             case rel=>
              by_cases h0:e10=0
              ·have hrd:=HRD.out.1 h0
               have hl:(acc++[(nm,vv)]).length=N+1:=by rw [List.length_append,←HNN.out];rfl
               refine ⟨acc++[(nm,vv)],a2,N+1,c2,kU,e10,rfl,fun _=>hl.symm,Lib.hid ⟨HA.out.1,by have:=HA.out.2.1;rwa [HE10'.out] at this,fun _=>?_,by rw [hl];have:=hrd.2.2.2.2.2;have:=HNN.out;omega,?_,by have:=HST.out.ge;omega,fun _=>hrd.1,fun h=>absurd h0 h⟩,Nat.le_refl _⟩
               ·rw [hl,atc_app,atc_one]
                have:=HA.out.2.2
                rw [HTS.out,HTV.out] at this
                exact this
               ·intro y hy
                rcases List.mem_append.1 hy with hy | hy
                ·exact HST.out.bss y hy
                ·rw [List.mem_singleton] at hy;subst hy;exact ⟨hrd.2.2.2.1,hrd.2.2.2.2.1⟩
              ·exact ⟨acc,a2,N+1,c2,kU,e10,rfl,fun h=>absurd h h0,Lib.hid ⟨HA.out.1,by have:=HA.out.2.1;rwa [HE10'.out] at this,fun h=>absurd h h0,HST.out.len,HST.out.bss,by have:=HST.out.ge;have:=HKU.out;omega,fun h=>absurd h h0,fun h=>HRD.out.2 h⟩,Nat.le_refl _⟩
  ·have heI:((er:Int) == 0)=false:=beq_eq_false_iff_ne.2 (by omega)
   have heI2:¬(er:Int)=0:=by omega
   have c3:=hst.out.rq.c3
   clear hst hn
   go_wp2
   go_ret
   rw [HST.out.er he]
   exact ⟨HST.out.tch,⟨_,_,_,rfl⟩,he,_,HST.out.rq⟩
end
end Go.Proofs.YtbogfailbgbdoaaGreatDoor.K
