/- Part 24. -/
import Derived.Test.YtacpfpghokcdlaaGreatDoorXB23
open Go.Proofs.Tryz
namespace Go.Proofs.YtacpfpghokcdlaaGreatDoor
set_option maxRecDepth 100000
section
open Go.Lib renaming hid → J
open Go.RowKit
theorem zg5 (a b d:Nat) (w:World) (h2:b≤1000000) :
  Calls prog 80 #[.agg #[.int .u8 (a:Nat),.int .i64 (b:Nat),.int .i64 (d:Nat)]] w fun e w'=>e=.returned (.int .i64 (max b 1:Nat))∧Below w.heap.size w w':=by
 have B1:=J ((Below.refl w.heap.size w).alloc (Nat.le_refl _) (.cells #[.int .u8 (a:Nat),.int .i64 (b:Nat),.int .i64 (d:Nat)] 128));obtain ⟨T,hT⟩:=exq (max b 1);have HT:=J (show max (b:Int) 1=(T:Int) by rw [hT];omega);rw [←hT];clear hT;go_enter func80,ntmps80;have hm:=HT.out;go_wp2;all_goals
  go_ret;exact ⟨by first | rfl | (congr 2;omega) | (simp;omega),B1.out⟩
structure Apw (w:World) (bs ends:List Nat) (PR:List Tok) (a i m:Nat) (lo:Option Addr) (lc:Nat) (wr:World):Prop where
 apt:Apt bs ends PR a
 len:PR.length=m
 low:∀ j,j<i→ends.getD j 0≤a
 high:i<ends.length→a<ends.getD i 0
 end_:i=ends.length→a=bs.length
 own:wr.ownsRow w.heap.size 128 3 (.slice lo m lc) m (V.tcl PR)
 below:Below w.heap.size w wr
theorem Apw.grow {w:World}{bs ends:List Nat}{PR:List Tok}{a i m:Nat}{lo:Option Addr}{lc:Nat}{wr w2:World}(h:Apw w bs ends PR a i m lo lc wr) (hb:Below wr.heap.size wr w2):Apw w bs ends PR a i m lo lc w2:=
 ⟨h.apt,h.len,h.low,h.high,h.end_,ownsRow_below h.own hb,h.below.on hb⟩
theorem zku {r:List Tok}{k:Nat}(h:k<r.length):V.M.sum (r.take (k+1))=V.M.sum (r.take k)+V.M.tells (V.tk r k):=by
 rw [V.yM r k h,V.M.Xx]
theorem xK {n:Nat}{ends:List Nat}(E:Ends n ends){j:Nat}(hj:j<ends.length):ends.getD j 0≤n∧(j+1<ends.length→ends.getD j 0<ends.getD (j+1) 0)∧(j+1=ends.length→ends.getD j 0=n):=by
 have e:ends.getD j 0=ends[j]:=by rw [List.getD_eq_getElem?_getD,List.getElem?_eq_getElem hj];rfl
 rw [e];refine ⟨(E.pos _ (List.getElem_mem hj)).1,fun h=>?_,fun h=>?_⟩
 ·have:=List.pairwise_iff_getElem.1 E.asc j (j+1) hj h (by omega)
  rw [List.getD_eq_getElem?_getD,List.getElem?_eq_getElem h];exact this
 ·have:=E.last
  rw [List.getLast?_eq_getElem?,←h,Nat.add_sub_cancel,List.getElem?_eq_getElem hj] at this;exact Option.some.inj this
set_option maxHeartbeats 6400000 in
theorem zaA {w:World}{ao:Option Addr}{cr b off cb q ce:Nat}{r:List Tok}{bs ends:List Nat}(hr:V.KS w ao r) (hx:V.M.ex r []=some bs) (hlit:∀ t∈r,t.lit<256) (hs:zi w (.slice (some ⟨b,off,none⟩) bs.length cb) bs) (hb:Bs bs) (hl:bs.length≤5000) (h0:0<bs.length) (hcb:bs.length≤cb)
  (hi:IS w (some ⟨q,0,none⟩) (Y.ints ends)) (hE:Ends bs.length ends) (hce:ends.length≤ce) (h2:2≤ends.length) (hel:ends.length≤1000) :
  Calls prog 55 #[.slice ao r.length cr,.slice (some ⟨b,off,none⟩) bs.length cb,.slice (some ⟨q,0,none⟩) ends.length ce] w fun e w'=>∃ ao c R,e=.returned (.slice ao R.length c)∧V.KS w' ao R∧Below w.heap.size w w'∧R.length≤c∧AP bs ends R:=by
 have hsum:=V.M.xk hx;have hrl:=V.M.xX r;simp only [List.length_nil,Nat.zero_add] at hsum;obtain ⟨n,hn⟩:=exq (bs.length);obtain ⟨E,hEn⟩:=exq (ends.length);obtain ⟨L,hL⟩:=exq (r.length);have HN:=J hn;have HEN:=J hEn;have HL:=J hL;have HR:=J hr;have HXL:=J (And.intro hx hlit);have HS:=J hs;have HB:=J hb;have HI:=J hi;have HE:=J hE;have HSUM:=J hsum;rw [←hn] at hl h0 hcb hsum ⊢;rw [←hEn] at hce h2 hel ⊢;rw [←hL] at hrl ⊢;have hL5:L≤5000:=by omega
 have hE1:((E:Int) == 1)=false:=by simp;omega
 clear hr hx hlit hs hb hi hE hn hEn hL hsum hrl;go_enter func55,ntmps55;go_wp2_with fail
 go_loopw [2,7,8,19] (fun v2 v7 v8 v19 wr=>∃ (k i j a m el cl lc:Nat) (lo:Option Addr),k≤L∧v2=.slice (some ⟨q,j,none⟩) el cl∧v7=.slice lo m lc∧v8=.int .i64 (a:Nat)∧v19=.int .i64 (k:Nat)∧(0<el→j=i)∧i+el=E∧el≤cl∧a≤n∧m≤a∧Hid (a=V.M.sum (r.take k))∧Hid (∃ PR,Apw w bs ends PR a i m lo lc wr)) (fun _ _ _ v19 _=>L-(intOf v19).toNat)
 case atStart=>
  refine ⟨0,0,0,0,0,E,ce,0,none,Nat.zero_le _,rfl,rfl,rfl,rfl,fun _=>rfl,Nat.zero_add _,hce,Nat.zero_le _,Nat.le_refl _,J (by simp [V.M.sum]),J ⟨[],⟨Apt.start fun e he=>?_,rfl,fun j hj=>by omega,fun h=>?_,fun h=>by have:=HEN.out;omega,⟨rfl,.inl ⟨rfl,rfl⟩⟩,Below.refl _ _⟩⟩⟩
  ·have:=(HE.out.pos e he).2
   have:=HN.out;omega
  ·have h3:=xK HE.out h
   have h4:ends.getD 0 0∈ends:=by rw [List.getD_eq_getElem?_getD,List.getElem?_eq_getElem h];exact List.getElem_mem h
   have:=(HE.out.pos _ h4).2;have:=HN.out;omega
 case round=>
  obtain ⟨k,i,j,a,m,el,cl,lc,lo,hk,rfl,rfl,rfl,rfl,hji,hiel,hecl,han,hma,HA,HX⟩:=hrel;by_cases hlt:k<L
  ·have hlt':(k:Int)<L:=by omega
   have hkr:k<r.length:=by rw [←HL.out];exact hlt
   obtain ⟨PR,hap⟩:=HX.out;have HAP:=J hap;obtain ⟨bt,ot,rfl,t0,t1,t2⟩:=(HR.out.on hap.below).at hkr;obtain ⟨t,ht⟩:=exq (V.tk r k);have HFT:=J (zjB HXL.out.1 hkr);have HST:=J (zku hkr);rw [←ht] at t0 t1 t2 HFT HST;rw [←HA.out,←HN.out] at HFT;rw [←HA.out] at HST;obtain ⟨x0,hx0⟩:=exq (t.lit);obtain ⟨x1,hx1⟩:=exq (t.len);obtain ⟨x2,hx2⟩:=exq (t.dist);rw [←hx0] at t0;rw [←hx1] at t1 HFT;rw [←hx2] at t2 HFT;obtain ⟨T,hT⟩:=exq (V.M.tells t);rw [←hT] at HFT HST;have HTT:=J (show T=max x1 1 by rw [hT,hx1];rfl);have hTb:1≤T∧a+T≤n:=by
    have h5:=HTT.out;rcases HFT.out with ⟨h1,h2,h3⟩ | ⟨h1,h2,h3⟩
    ·omega
    ·have:=h3.1;omega
   have hx9:x1≤5000:=by have:=HTT.out;omega
   obtain ⟨be,hbe⟩:=exq (a+T);have e1:IntKind.i64.wrap ((a:Int)+T)=(be:Int):=by rw [IntKind.wrap_i64];omega
   have e2:(a:Int)+T=(be:Int):=by omega
   obtain ⟨W1,hW1⟩:=exq (wr.alloc (.cells #[.int .u8 (x0:Nat),.int .i64 (x1:Nat),.int .i64 (x2:Nat)] 128));obtain ⟨bx,hbx⟩:=exq (wr.heap.size);have hb1:Below wr.heap.size wr W1:=by rw [hW1];exact (Below.refl _ _).alloc (Nat.le_refl _) _
   have HX1:Hid (Blk W1 bx 128 #[.int .u8 (x0:Nat),.int .i64 (x1:Nat),.int .i64 (x2:Nat)]):=J (by rw [hW1,hbx];exact Blk.made _ _ _);have HAP1:=J (hap.grow hb1);have HBX:Hid (∀ k,(Value.slice lo m lc).ownBlock=some k→k<bx):=J fun k hk=>by rw [hbx];exact (hap.own.lt k hk).2
   clear ht hx0 hx1 hx2 hT hap HX HAP hb1;go_upto_region 8 with fail
   rw [←hW1,←hbx];clear hW1 hbx t0 t1 t2;have c0:=(HX1.out.cell 0).trans (show _=some (.int .u8 (x0:Nat)) from rfl);have c1:=(HX1.out.cell 1).trans (show _=some (.int .i64 (x1:Nat)) from rfl);have c2:=(HX1.out.cell 2).trans (show _=some (.int .i64 (x2:Nat)) from rfl);have HSP:Hid (Calls prog 80 #[.agg #[.int .u8 (x0:Nat),.int .i64 (x1:Nat),.int .i64 (x2:Nat)]] W1 fun e w'=>e=.returned (.int .i64 (T:Nat))∧Below W1.heap.size W1 w'):=J (by rw [HTT.out];exact zg5 x0 x1 x2 W1 (by omega))
   go_wp2_with fail
   with_reducible refine HSP.out.mono ?_
   rintro e w2 ⟨rfl,hb⟩;have HX2:=J (HX1.out.below hb);have HAP2:=J (HAP1.out.grow hb);clear hb HX1 HAP1 HSP c0 c1 c2;have hbe9:be≤n:=by omega
   have hab:a<be:=by omega
   have HBE:=J hbe;clear hbe e1;go_wp2_with fail
   go_loopw [2,7,8] (fun v2 v7 v8 wr=>∃ (i j a2 m el cl lc:Nat) (lo:Option Addr),v2=.slice (some ⟨q,j,none⟩) el cl∧v7=.slice lo m lc∧v8=.int .i64 (a2:Nat)∧(0<el→j=i)∧i+el=E∧el≤cl∧a≤a2∧a2≤be∧m≤a2∧Hid (∀ k,(Value.slice lo m lc).ownBlock=some k→k≠bx)∧Hid ((∃ PR,Apw w bs ends PR a2 i m lo lc wr)∧Blk wr bx 128 #[.int .u8 (x0:Nat),.int .i64 (x1:Nat),.int .i64 (x2:Nat)])) (fun _ _ v8 _=>be-(intOf v8).toNat)
   case atStart=>
    exact ⟨i,j,a,m,el,cl,lc,lo,rfl,rfl,rfl,hji,hiel,hecl,Nat.le_refl _,by omega,hma,J fun k hk=>Nat.ne_of_lt (HBX.out k hk),J ⟨⟨PR,HAP2.out⟩,HX2.out⟩⟩
   case round=>
    obtain ⟨i,j,a2,m,el,cl,lc,lo,rfl,rfl,rfl,hji,hiel,hecl,ha2,ha2b,hma2,HBX,HX⟩:=hrel;by_cases hlt2:a2<be
    ·have hlt2':(a2:Int)<be:=by omega
     obtain ⟨⟨PR,hap⟩,hblk⟩:=HX.out;have hiE:i<ends.length:=by
      rcases Nat.lt_or_ge i ends.length with h | h
      ·exact h
      ·have:=hap.end_ (by have:=HEN.out;omega)
       have:=HN.out;omega
     have hel1:1≤el:=by have:=HEN.out;omega
     obtain rfl:i=j:=(hji hel1).symm;have hel1':(1:Int)≤el:=by omega
     have hel0':(0:Int)<el:=by omega
     have hcl1':(1:Int)≤cl:=by omega
     obtain ⟨e,he⟩:=exq (ends.getD i 0);obtain ⟨bi,oi,hbo,q1⟩:=(IS.below HI.out hap.below).at (show i<(Y.ints ends).length by rw [Y.zj];exact hiE);cases hbo;rw [Y.ints_at,←he,Nat.zero_add] at q1;have hea:=hap.high hiE;rw [←he] at hea;have hen:=(xK HE.out hiE).1;rw [←he,←HN.out] at hen;obtain ⟨x,hx⟩:=exq (min be e);have hm:min (be:Int) (e:Int)=(x:Int):=by omega
     obtain ⟨m2,hm2⟩:=exq (x-a2);have hk1:IntKind.i64.wrap ((x:Int)-a2)=(m2:Int):=by rw [IntKind.wrap_i64];omega
     have hk2:(x:Int)-a2=(m2:Int):=by omega
     have hk3:IntKind.i64.wrap ((a2:Int)+m2)=(x:Int):=by rw [IntKind.wrap_i64];omega
     have hk4:(a2:Int)+m2=(x:Int):=by omega
     have hx1:(a2:Int)≤x:=by omega
     have hx2':(x:Int)≤cb:=by omega
     have hx4':(a2:Int)≤cb:=by omega
     have hx5':¬cb=a2:=by omega
     have hx3:x-a2=m2:=hm2.symm;obtain ⟨PF,hPF⟩:=exq (ka x2 ((bs.drop a2).take m2));have HPF:=J hPF;have hlen:((bs.drop a2).take m2).length=m2:=by rw [List.length_take,List.length_drop,←HN.out];omega
     have hbd:=zQ (Below.refl wr.heap.size wr);have HPT:Hid (Calls prog 81 #[.agg #[.int .u8 (x0:Nat),.int .i64 (x1:Nat),.int .i64 (x2:Nat)],.slice (some ⟨b,off+a2,none⟩) m2 (cb-a2)] wr.drew fun e w'=>∃ ao c,e=.returned (.slice ao PF.length c)∧w'.ownsRow wr.drew.heap.size 128 3 (.slice ao PF.length c) PF.length (V.tcl PF)∧Below wr.drew.heap.size wr.drew w'):=J (by
      have hsub:=zi.mid ((HS.out.grow hap.below).grow hbd) a2 m2 (by rw [←HN.out];omega) (by rw [←HN.out];omega);have:=zfE x0 x1 x2 (cb-a2) (some ⟨b,off+a2,none⟩) ((bs.drop a2).take m2) wr.drew (by rw [hlen];exact hsub) (by rw [hlen];omega);rw [hlen,←hPF] at this;exact this)
     have HPL:Hid (PF.length≤m2):=J (by
      rw [hPF];unfold ka;rw [hlen];split
      ·simp;omega
      ·rw [List.length_map,hlen];exact Nat.le_refl _)
     have HAPT:Hid (Apt bs ends (PR++PF) x):=J (by
      have h5:=Apt.part (m:=m2) (d:=x2) HB.out hap.apt (by rw [←HN.out];omega) (zhY HE.out hiE hap.low (by rw [←he];omega)) fun h3=>by
       rcases HFT.out with ⟨_,h6,_⟩ | ⟨h6,_,h7⟩
       ·omega
       ·have:=h7.on (x:=a2-a) (k:=m2) (by omega)
        rwa [show a+(a2-a)=a2 by omega] at this
      rw [←hPF,show a2+m2=x by omega] at h5;exact h5)
     have OW:Hid (wr.drew.ownsRow w.heap.size 128 3 (.slice lo m lc) m (V.tcl PR)):=J (ownsRow_below hap.own hbd);have BW:Hid (Below w.heap.size w wr.drew):=J (hap.below.on hbd);have BK:=J (hblk.below hbd);have HPRL:=J hap.len;have HLOW:=J hap.low;have s0:wr.drew.cell? ⟨bx,0,none⟩=some (.int .u8 (x0:Nat))∧wr.drew.cell? ⟨bx,1,none⟩=some (.int .i64 (x1:Nat))∧wr.drew.cell? ⟨bx,2,none⟩=some (.int .i64 (x2:Nat)):=⟨(BK.out.cell 0).trans rfl,(BK.out.cell 1).trans rfl,(BK.out.cell 2).trans rfl⟩;have HS0:=J s0;have HXE:=J (And.intro he (And.intro hx hm2));have hxb:x≤be∧x≤e∧a2<x∧m2≤n∧x≤n:=by omega
     clear hap hblk HX hPF hlen hbd s0 he hx hm2;go_upto_region 11 with fail
     have s0:=HS0.out;clear hm hk1 hk2 hk4;go_region_held3 (fun W=>W.cell? ⟨bx,0,none⟩=some (.int .u8 (x0:Nat))∧W.cell? ⟨bx,1,none⟩=some (.int .i64 (x1:Nat))∧W.cell? ⟨bx,2,none⟩=some (.int .i64 (x2:Nat))) (first | assumption) (first | (go_at_call 81;(with_reducible refine HPT.out.mono ?_);rintro e5 w5 ⟨ao5,c5,rfl,hown5,hb5⟩;have BK5:=J (BK.out.below hb5);have OW5:=J (ownsRow_below OW.out hb5);have BW5:=J (BW.out.on hb5);have SR5:=J (UU hown5);have s5:w5.cell? ⟨bx,0,none⟩=some (.int .u8 (x0:Nat))∧w5.cell? ⟨bx,1,none⟩=some (.int .i64 (x1:Nat))∧w5.cell? ⟨bx,2,none⟩=some (.int .i64 (x2:Nat)):=⟨(BK5.out.cell 0).trans rfl,(BK5.out.cell 1).trans rfl,(BK5.out.cell 2).trans rfl⟩;clear hown5 hb5) | (refine V.jc V.zbc rfl (.tmp 37) (.tmp 45) rfl w.heap.size (.slice lo m lc) (.slice ao5 PF.length c5) m PF.length (V.tcl PR) (V.tcl PF) rfl rfl OW5.out SR5.out (by rw [V.yJ]) (V.QG _) BW5.out.size (by have:=HPL.out;omega) (by have:=HPL.out;omega) ?_;intro ao6 c6 w6 hA;have HA6:=J hA;have BK6:=J (BK5.out.touch hA.touch fun h=>HBX.out _ h rfl);have s6:w6.cell? ⟨bx,0,none⟩=some (.int .u8 (x0:Nat))∧w6.cell? ⟨bx,1,none⟩=some (.int .i64 (x1:Nat))∧w6.cell? ⟨bx,2,none⟩=some (.int .i64 (x2:Nat)):=⟨(BK6.out.cell 0).trans rfl,(BK6.out.cell 1).trans rfl,(BK6.out.cell 2).trans rfl⟩;clear hA))
     have hk4:(a2:Int)+m2=(x:Int):=by have:=HXE.out;omega
     have BW6:Hid (Below w.heap.size w w6):=J (BW5.out.trans (HA6.out.below OW5.out BW5.out.size));have q6:w6.cell? ⟨q,i,none⟩=some (.int .i64 (e:Nat)):=by
      obtain ⟨bi,oi,hbo,q7⟩:=(IS.below HI.out BW6.out).at (show i<(Y.ints ends).length by rw [Y.zj];exact hiE);cases hbo;rwa [Y.ints_at,←HXE.out.1,Nat.zero_add] at q7
     have OW6:Hid (w6.ownsRow w.heap.size 128 3 (.slice ao6 (m+PF.length) c6) (m+PF.length) (V.tcl (PR++PF))):=J (by rw [←V.uj];exact HA6.out.own);have HBX6:Hid (∀ k,(Value.slice ao6 (m+PF.length) c6).ownBlock=some k→k≠bx):=J fun k hk=>by
      rcases HA6.out.row k hk with h | h
      ·exact HBX.out k h
      ·have:=BK5.out.lt
       omega
     have hpl:=HPL.out;have HEA:=J (xK HE.out hiE);rw [←HXE.out.1] at HEA;clear q1 s0 s5 HS0 HPT OW BW BK OW5 SR5 BK5 hx3 hx1 hx2' hx4' hx5';by_cases hxe:x=e
     ·have hxe1:((x:Int) == (e:Int))=true:=by simp;omega
      have HXX:=J hxe;have hd1:cl=1∨¬cl=1:=by omega
      clear hxe;rcases hd1 with hd1 | hd1
      all_goals
       have hd2:=hd1;go_wp2;go_roundw;case rel=>
        refine ⟨i+1,_,x,m+PF.length,el-1,_,c6,ao6,rfl,rfl,by go_num,?_,by omega,by omega,by omega,by omega,by omega,HBX6,J ⟨⟨PR++PF,HAPT.out,by rw [List.length_append,HPRL.out],?_,?_,?_,OW6.out,BW6.out⟩,BK6.out⟩⟩
        ·intro h;omega
        ·intro y hy
         rcases Nat.lt_or_ge y i with h | h
         ·have:=HLOW.out y h;omega
         ·obtain rfl:y=i:=by omega
          rw [←HXE.out.1,HXX.out];exact Nat.le_refl _
        ·intro h
         rw [HXX.out];exact HEA.out.2.1 h
        ·intro h
         rw [HXX.out];exact HEA.out.2.2 h
       case measure=>simp [intOf];omega
     ·have hxe1:((x:Int) == (e:Int))=false:=by simp;omega
      go_wp2;go_roundw;case rel=>
       refine ⟨i,i,x,m+PF.length,el,cl,c6,ao6,rfl,rfl,by go_num,fun _=>rfl,hiel,hecl,by omega,by omega,by omega,HBX6,J ⟨⟨PR++PF,HAPT.out,by rw [List.length_append,HPRL.out],?_,?_,?_,OW6.out,BW6.out⟩,BK6.out⟩⟩
       ·intro y hy
        have:=HLOW.out y hy;omega
       ·intro _
        rw [←HXE.out.1];omega
       ·intro h;omega
      case measure=>simp [intOf];omega
    ·obtain rfl:a2=be:=by omega
     go_wp2;go_roundw;case rel=>
      refine ⟨k+1,i,j,a2,m,el,cl,lc,lo,by omega,rfl,rfl,rfl,by go_num,hji,hiel,hecl,by omega,hma2,J (by rw [HST.out];exact HBE.out),J HX.out.1⟩
     case measure=>simp [intOf];omega
  ·obtain rfl:k=L:=by omega
   obtain ⟨PR,hap⟩:=HX.out;have HAP:=J hap;have hae:a=n:=by
    have h5:=HA.out;rw [HL.out,List.take_length] at h5;have:=HSUM.out;have:=HN.out;omega
   have HFN:=J (hap.apt.done (by rw [←HN.out];exact hae) fun e he=>(HE.out.pos e he).1)
   clear hap HX hae;go_wp2;go_ret;have hlen:=HAP.out.len;subst hlen;exact ⟨lo,lc,PR,rfl,V.zgd HAP.out.own rfl,HAP.out.below,(V.jU HAP.out.own).1,HFN.out⟩
structure PkA (w:World) (pk pw lb db lc dc:Nat):Prop where
 obj:∃ cs,Blk w pk 91 cs∧cs[0]? = some (.pointer (some ⟨pw,0,none⟩))∧cs[1]? = some (.slice (some ⟨lb,0,none⟩) 29 lc)∧cs[2]? = some (.slice (some ⟨db,0,none⟩) 30 dc)
 len:RgA w lb 29 257 LBs LXs
 dis:RgA w db 30 0 DBs DXs
 cap:29≤lc∧30≤dc
theorem PkA.o {w:World}{pk pw lb db lc dc:Nat}(h:PkA w pk pw lb db lc dc):PkO w pk pw:=by
 obtain ⟨cs,h1,h2,_⟩:=h.obj;exact ⟨cs,h1,h2⟩
theorem PkA.cells {w:World}{pk pw lb db lc dc:Nat}(h:PkA w pk pw lb db lc dc):w.cell? ⟨pk,0,none⟩=some (.pointer (some ⟨pw,0,none⟩))∧w.cell? ⟨pk,1,none⟩=some (.slice (some ⟨lb,0,none⟩) 29 lc)∧w.cell? ⟨pk,2,none⟩=some (.slice (some ⟨db,0,none⟩) 30 dc):=by
 obtain ⟨cs,h1,h2,h3,h4⟩:=h.obj;rw [h1.cell,h1.cell,h1.cell];exact ⟨h2,h3,h4⟩
theorem PkA.grow {w w1:World}{pk pw lb db lc dc:Nat}(h:PkA w pk pw lb db lc dc) (hb:Below w.heap.size w w1):PkA w1 pk pw lb db lc dc:=by
 obtain ⟨cs,h1,h2⟩:=h.obj;exact ⟨⟨cs,h1.below hb,h2⟩,h.len.grow hb,h.dis.grow hb,h.cap⟩
theorem PkA.keep {w w1:World}{pk pw lb db lc dc:Nat}(h:PkA w pk pw lb db lc dc){base:Nat}{g:Option Nat}{P Q:List (Nat × Nat)}(hw:Wq w base pw g P) (hq:Pq w base pw g Q w1):PkA w1 pk pw lb db lc dc:=by
 obtain ⟨cs,h1,h2⟩:=h.obj;exact ⟨⟨cs,zt.blk hq hw h1 (by decide) (by decide),h2⟩,h.len.keep hw hq,h.dis.keep hw hq,h.cap⟩
theorem KS.put {w w1:World}{base pw:Nat}{g:Option Nat}{Q:List (Nat × Nat)}{ao:Option Addr}{r:List Tok}(h:V.KS w ao r) (hq:Pq w base pw g Q w1) (ho:∀ b off,ao=some ⟨b,off,none⟩→¬xG pw g b):V.KS w1 ao r:=by
 rcases h with h | ⟨b,off,rfl,hc⟩
 ·exact .inl h
 ·obtain ⟨_,_,ht,_⟩:=hq
  refine .inr ⟨b,off,rfl,fun j v hv=>?_⟩;have h1:=hc j v hv;have h2:=World.block_lt_of_cell? w _ h1;have h3:=ht.block b h2 (ho b off rfl);rw [←h1];simp [World.cell?,h3]
theorem vN:∀ i,i<30→DXs.getD i 0≤13:=by decide
theorem Jr:∀ i,i<29→LXs.getD i 0≤13:=by decide
theorem zaI {fl ol:List Nat}(Hf:Ok fl) (Ho:Ok ol){t:Tok}(h:z7 t):wid (jx fl ol t)≤60:=by
 rw [JE];have h1:=z6 Hf (fsy t);have h2:=z6 Ho (dsy t.dist);by_cases h0:t.len≠0
 ·rw [if_pos h0,if_pos h0,if_pos h0]
  have h3:=Jr _ (lix (h.len h0).1 (h.len h0).2.1).2.1;have h4:=vN _ (dix (h.len h0).2.2.1 (h.len h0).2.2.2).2.1;unfold lxt dxt;omega
 ·rw [if_neg h0,if_neg h0,if_neg h0];omega
theorem XY {fl ol:List Nat}(Hf:Ok fl) (Ho:Ok ol){r:List Tok}(h:∀ t∈r,z7 t):wid (zG fl ol r)≤60*r.length:=by
 induction r with
 | nil=>exact Nat.le_refl _
 | cons t r ih=>
  have e:zG fl ol (t::r)=jx fl ol t++zG fl ol r:=rfl;rw [e,zh,List.length_cons];have:=ih fun x hx=>h x (List.mem_cons_of_mem _ hx)
  have:=zaI Hf Ho (h t (List.mem_cons_self ..));omega
theorem Ji (fl ol:List Nat) (r:List Tok) (t:Tok):zG fl ol (r++[t])=zG fl ol r++jx fl ol t:=by simp [zG]
set_option maxHeartbeats 6400000 in
theorem KN {w:World}{base pw pk lb db lc dc c1 c2 cr:Nat}{g:Option Nat}{P:List (Nat × Nat)}{fl ol:List Nat}{ao:Option Addr}{r:List Tok}(h:Wq w base pw g P) (hk:PkA w pk pw lb db lc dc) (hc1:zg w c1 fl) (hc2:zg w c2 ol) (hn:wid P≤1000000000)
  (hr:V.KS w ao r) (hro:∀ b off,ao=some ⟨b,off,none⟩→¬xG pw g b) (hrl:r.length≤20000) (hok:∀ t∈r,z7 t) (hf:∀ t∈r,ln fl (fsy t)≠0) (ho:∀ t∈r,t.len≠0→ln ol (dsy t.dist)≠0) (h256:ln fl 256≠0) :
  Calls prog 91 #[.pointer (some ⟨pk,0,none⟩),.slice ao r.length cr,.agg #[.pointer (some ⟨c1,0,none⟩),.pointer (some ⟨c2,0,none⟩)]] w fun e w'=>e=.returned (.tuple #[])∧Pq w base pw g (P++(zG fl ol r++[cp fl 256])) w':=by
 obtain ⟨w1,hw1⟩:=exq (w.alloc (.cells #[.pointer (some ⟨c1,0,none⟩),.pointer (some ⟨c2,0,none⟩)] 89));have B1:Hid (Below w.heap.size w w1):=J (by rw [hw1];exact (Below.refl _ _).alloc (Nat.le_refl _) _);obtain ⟨q,hq⟩:=exq (w.heap.size);have R1:Hid (Blk w1 q 89 #[.pointer (some ⟨c1,0,none⟩),.pointer (some ⟨c2,0,none⟩)]):=J (by rw [hw1,hq];exact Blk.made _ _ _);have HW:=J (h.grow B1.out);have HK:=J (hk.grow B1.out);have HC1:=J (hc1.below B1.out);have HC2:=J (hc2.below B1.out);have HR:=J (V.KS.on hr B1.out);have HRO:=J hro;have HOK:=J hok;have HF:=J hf;have HO:=J ho;have H256:=J h256;have HS:=J fun k=>XY hc1.ok hc2.ok (r:=r.take k) fun t ht=>hok t (List.mem_of_mem_take ht)
 obtain ⟨L,hL⟩:=exq (r.length);have HL:=J hL;rw [←hL] at hrl ⊢;clear h hk hc1 hc2 hr hro hok hf ho h256 hL;go_enter func91,ntmps91;go_upto_region 1 with fail
 rw [←hw1,←hq];clear hw1 hq;go_wp2;go_loopw [10] (fun v10 wr=>∃ (k:Nat),k≤L∧v10=.int .i64 (k:Nat)∧Hid (Pq w1 base pw g (P++zG fl ol (r.take k)) wr)) (fun v10 _=>L-(intOf v10).toNat)
 case atStart=>exact ⟨0,Nat.zero_le _,rfl,J (by rw [List.take_zero];simpa [zG] using Pq.refl HW.out)⟩
 case round=>
  obtain ⟨k,hk,rfl,HX⟩:=hrel;have HKr:=J (HK.out.keep HW.out HX.out);have HC1r:=J (HC1.out.keep HW.out HX.out);have HC2r:=J (HC2.out.keep HW.out HX.out);have HRr:=J (KS.put HR.out HX.out HRO.out);have R1r:=J (zt.blk HX.out HW.out R1.out (by decide) (by decide));obtain ⟨g0,hw0,hk0⟩:=HX.out.then;have HW0:=J hw0;have HK0:=J hk0;have hsz:=HS.out k;have hlk:(r.take k).length≤k:=by rw [List.length_take];omega
  have HWD:Hid (wid (P++zG fl ol (r.take k))≤1100000000):=J (by rw [zh];omega);clear hw0 hk0 hsz hlk;by_cases hlt:k<L
  ·have hlt':(k:Int)<L:=by omega
   obtain ⟨b,off,rfl,t0,t1,t2⟩:=HRr.out.at (show k<r.length by rw [←HL.out];exact hlt);obtain ⟨t,ht⟩:=exq (V.tk r k);have HT:Hid (t∈r∧r.take (k+1)=r.take k++[t]):=J ⟨by rw [ht];exact V.za6 r k (by rw [←HL.out];exact hlt),by rw [ht];exact V.yM r k (by rw [←HL.out];exact hlt)⟩;rw [←ht] at t0 t1 t2;clear ht;have hTok:=HOK.out t HT.out.1;obtain ⟨x0,hx0⟩:=exq (t.lit);obtain ⟨x1,hx1⟩:=exq (t.len);obtain ⟨x2,hx2⟩:=exq (t.dist);rw [←hx0] at t0;rw [←hx1] at t1;rw [←hx2] at t2;have hx8:x0<256:=by rw [hx0];exact hTok.2
   obtain ⟨w2,hw2⟩:=exq (wr.alloc (.cells #[.int .u8 (x0:Nat),.int .i64 (x1:Nat),.int .i64 (x2:Nat)] 128));have B2:Hid (Below wr.heap.size wr w2):=J (by rw [hw2];exact (Below.refl _ _).alloc (Nat.le_refl _) _);obtain ⟨q2,hq2⟩:=exq (wr.heap.size);have R2:Hid (Blk w2 q2 128 #[.int .u8 (x0:Nat),.int .i64 (x1:Nat),.int .i64 (x2:Nat)]):=J (by rw [hw2,hq2];exact Blk.made _ _ _);have HX3:=J (And.intro hx0 (And.intro hx1 hx2));have HTK:=J hTok;have W2:=J (HW0.out.grow B2.out);have K2:=J (HKr.out.grow B2.out);have C12:=J (HC1r.out.below B2.out);have C22:=J (HC2r.out.below B2.out);have R12:=J (R1r.out.below B2.out);have HBK:Hid (∀ (Q:List (Nat × Nat)) (w3:World),Pq w2 base pw g0 Q w3→Pq w1 base pw g Q w3):=J fun Q w3 h=>HK0.out Q w3 (Pq.back B2.out h)
   have hx15:x1≤40000∧x2≤40000:=by
    by_cases h0:t.len=0
    ·rcases hTok.1 with h1 | h1
     ·omega
     ·omega
    ·have:=hTok.len h0;omega
   have hx151:=hx15.1;have hx152:=hx15.2;clear hx0 hx1 hx2 hTok hx15;go_upto_region 4 with fail
   rw [←hw2,←hq2];clear hw2 hq2 t0 t1 t2;have m1:=(R2.out.cell 1).trans (show _=some (.int .i64 (x1:Nat)) from rfl);by_cases h0:x1=0
   ·subst h0
    have m0:=(R2.out.cell 0).trans (show _=some (.int .u8 (x0:Nat)) from rfl);have n0:=(R12.out.cell 0).trans (show _=some (.pointer (some ⟨c1,0,none⟩)) from rfl);have k0:=K2.out.cells.1;have HFS:Hid (fsy t=x0∧jx fl ol t=[cp fl x0]):=J (by
     have h1:t.len=0:=HX3.out.2.1.symm;unfold fsy jx;rw [if_pos h1,if_pos h1,HX3.out.1];exact ⟨rfl,rfl⟩)
    have HP:=J ((W2.out.grow (zf w2)).sym (by have:=HWD.out;omega) (C12.out.below (zf w2)) x0 (by rw [←HFS.out.1];exact HF.out t HT.out.1));go_wp2_with fail
    go_still_tail 9,(by kernel_rfl)
    change wpList _ _ _ _ _ w2.drew;go_wp2_with fail
    refine HP.out.mono ?_;rintro e w3 ⟨rfl,hq⟩;have HQ:=J (HBK.out _ _ (Pq.undrew hq));clear hq HP;go_wp2;go_roundw;case rel=>
     refine ⟨k+1,by omega,by go_num,J ?_⟩;rw [HT.out.2,Ji,HFS.out.2,←List.append_assoc];exact HQ.out
    case measure=>simp [intOf];omega
   ·have h0b:((x1:Int) == 0)=false:=by simp;omega
    have ht0:t.len≠0:=by rw [←HX3.out.2.1];exact h0
    have hTl:=HTK.out.len ht0;have hL1:=lix hTl.1 hTl.2.1;have hD1:=dix hTl.2.2.1 hTl.2.2.2;have hLE:=Jr _ hL1.2.1;have hDE:=vN _ hD1.2.1;have hfs:fsy t=lsy t.len:=by unfold fsy;rw [if_neg ht0]
    have hfl:=HF.out t HT.out.1;have hol:=HO.out t HT.out.1 ht0;have hTP:jx fl ol t=[cp fl (lsy t.len),(t.len-lbs t.len,lxt t.len)]++[cp ol (dsy t.dist),(t.dist-dbs t.dist,dxt t.dist)]:=by unfold jx;rw [if_neg ht0];rfl
    rw [hfs] at hfl;rw [←HX3.out.2.1] at hL1 hLE hfl hTP;rw [←HX3.out.2.2] at hD1 hDE hol hTP;obtain ⟨y1,hy1⟩:=exq (lsy x1);obtain ⟨a1,ha1⟩:=exq (lbs x1);obtain ⟨e1,he1⟩:=exq (lxt x1);obtain ⟨y2,hy2⟩:=exq (dsy x2);obtain ⟨a2,ha2⟩:=exq (dbs x2);obtain ⟨e2,he2⟩:=exq (dxt x2);have hv1:rgV 257 LBs LXs x1=.agg #[.int .i64 (y1:Nat),.int .i64 (a1:Nat),.int .i64 (e1:Nat)]:=by rw [hy1,ha1,he1];rfl
    have hv2:rgV 0 DBs DXs x2=.agg #[.int .i64 (y2:Nat),.int .i64 (a2:Nat),.int .i64 (e2:Nat)]:=by rw [hy2,ha2,he2];unfold rgV;rw [Nat.zero_add];rfl
    have HTP:Hid (jx fl ol t=[cp fl y1,(x1-a1,e1)]++[cp ol y2,(x2-a2,e2)]):=J (by rw [hTP,hy1,ha1,he1,hy2,ha2,he2]);have HV1:=J (show ln fl y1≠0∧a1≤x1∧x1-a1<2^e1∧e1≤13 from ⟨by rw [hy1];exact hfl,by rw [ha1];exact hL1.2.2.1,by rw [ha1,he1];have h7:=hL1.2.2.2;have h8:=hL1.2.2.1;unfold lbs lxt;omega,by rw [he1];exact hLE⟩);have HV2:=J (show ln ol y2≠0∧a2≤x2∧x2-a2<2^e2∧e2≤13 from ⟨by rw [hy2];exact hol,by rw [ha2];exact hD1.2.2.1,by rw [ha2,he2];have h7:=hD1.2.2.2;have h8:=hD1.2.2.1;unfold dbs dxt;omega,by rw [he2];exact hDE⟩);have HRG1:Hid (∀ W,Below w2.heap.size w2 W→Calls prog 126 #[.slice (some ⟨lb,0,none⟩) 29 lc,.int .i64 x1] W fun e w'=>e=.returned (.agg #[.int .i64 (y1:Nat),.int .i64 (a1:Nat),.int .i64 (e1:Nat)])∧Below W.heap.size W w'):=
     J fun W hW=>by rw [←hv1];exact yI lb 29 lc 257 LBs LXs x1 W (K2.out.len.grow hW) vp rfl (by omega) K2.out.cap.1 hL1.1
    have HRG2:Hid (∀ W,RgA W db 30 0 DBs DXs→Calls prog 126 #[.slice (some ⟨db,0,none⟩) 30 dc,.int .i64 x2] W fun e w'=>e=.returned (.agg #[.int .i64 (y2:Nat),.int .i64 (a2:Nat),.int .i64 (e2:Nat)])∧Below W.heap.size W w'):=
     J fun W hW=>by rw [←hv2];exact yI db 30 dc 0 DBs DXs x2 W hW vC rfl (by omega) K2.out.cap.2 hD1.1
    have HNU1:Hid (∀ W,Below w2.heap.size w2 W→Calls prog 133 #[.pointer (some ⟨pk,0,none⟩),.pointer (some ⟨c1,0,none⟩),.agg #[.int .i64 (y1:Nat),.int .i64 (a1:Nat),.int .i64 (e1:Nat)],.int .i64 x1] W fun e w'=>e=.returned (.tuple #[])∧Pq w2 base pw g0 ((P++zG fl ol (r.take k))++[cp fl y1,(x1-a1,e1)]) w'):=
     J fun W hW=>(UD (W2.out.grow hW) (K2.out.o.grow hW) (C12.out.below hW) (by have:=HWD.out;omega) y1 a1 e1 x1 HV1.out.1 HV1.out.2.1 HV1.out.2.2.1 HV1.out.2.2.2 hx151).mono fun _ _ k=>⟨k.1,Pq.back hW k.2⟩
    have AFT:Hid (∀ W,Below w2.heap.size w2 W→W.cell? ⟨pk,1,none⟩=some (.slice (some ⟨lb,0,none⟩) 29 lc)∧W.cell? ⟨q,0,none⟩=some (.pointer (some ⟨c1,0,none⟩))∧W.cell? ⟨q2,1,none⟩=some (.int .i64 (x1:Nat))):=J fun W hW=>⟨(K2.out.grow hW).cells.2.1,((R12.out.below hW).cell 0).trans rfl,((R2.out.below hW).cell 1).trans rfl⟩
    have AFQ:Hid (∀ W Q,Pq w2 base pw g0 Q W→W.cell? ⟨pk,1,none⟩=some (.slice (some ⟨lb,0,none⟩) 29 lc)∧W.cell? ⟨q,0,none⟩=some (.pointer (some ⟨c1,0,none⟩))∧W.cell? ⟨q2,1,none⟩=some (.int .i64 (x1:Nat))):=J fun W Q hW=>⟨(K2.out.keep W2.out hW).cells.2.1,((zt.blk hW W2.out R12.out (by decide) (by decide)).cell 0).trans rfl,((zt.blk hW W2.out R2.out (by decide) (by decide)).cell 1).trans rfl⟩
    have n0:=(R12.out.cell 0).trans (show _=some (.pointer (some ⟨c1,0,none⟩)) from rfl);have k1:=K2.out.cells.2.1;clear hTl hL1 hD1 hLE hDE hfs hfl hol hTP hy1 ha1 he1 hy2 ha2 he2 hv1 hv2 ht0;go_wp2_with fail
    go_region_held3 (fun W=>W.cell? ⟨pk,1,none⟩=some (.slice (some ⟨lb,0,none⟩) 29 lc)∧W.cell? ⟨q,0,none⟩=some (.pointer (some ⟨c1,0,none⟩))∧W.cell? ⟨q2,1,none⟩=some (.int .i64 (x1:Nat))) (go_keep) (first | (go_at_call 126;(refine (HRG1.out _ (zf w2)).mono ?_);rintro e w3 ⟨rfl,hb3⟩;have B3:=J ((zf w2).on hb3);obtain ⟨j2,j1,j0⟩:=AFT.out w3 B3.out;clear hb3) | (go_at_call 133;(refine (HNU1.out _ B3.out).mono ?_);rintro e w4 ⟨rfl,hq⟩;have HQ4:=J hq;obtain ⟨l2,l1,l0⟩:=AFQ.out w4 _ hq;clear hq))
    obtain ⟨g4,hw4,hk4⟩:=HQ4.out.then;have W4:=J hw4;have K4:=J (K2.out.keep W2.out HQ4.out);have C4:=J (C22.out.keep W2.out HQ4.out);have R14:=J (zt.blk HQ4.out W2.out R12.out (by decide) (by decide));have R4:=J (zt.blk HQ4.out W2.out R2.out (by decide) (by decide));have HB4K:Hid (∀ (Q:List (Nat × Nat)) (w5:World),Pq w4 base pw g4 Q w5→Pq w1 base pw g Q w5):=J fun Q w5 h=>HBK.out Q w5 (hk4 Q w5 h)
    have HNU2:Hid (∀ W,Below w4.heap.size w4 W→Calls prog 133 #[.pointer (some ⟨pk,0,none⟩),.pointer (some ⟨c2,0,none⟩),.agg #[.int .i64 (y2:Nat),.int .i64 (a2:Nat),.int .i64 (e2:Nat)],.int .i64 x2] W fun e w'=>e=.returned (.tuple #[])∧Pq w4 base pw g4 (((P++zG fl ol (r.take k))++[cp fl y1,(x1-a1,e1)])++[cp ol y2,(x2-a2,e2)]) w'):=
     J fun W hW=>(UD (W4.out.grow hW) (K4.out.o.grow hW) (C4.out.below hW) (by
      have h1:=HWD.out;have h2:=HV1.out.2.2.2;have h3:ln fl y1≤15:=z6 HC1.out.ok y1;rw [zh];simp only [wid,cp];omega) y2 a2 e2 x2 HV2.out.1 HV2.out.2.1 HV2.out.2.2.1 HV2.out.2.2.2 hx152).mono fun _ _ k=>⟨k.1,Pq.back hW k.2⟩
    have AFT4:Hid (∀ W,Below w4.heap.size w4 W→W.cell? ⟨pk,2,none⟩=some (.slice (some ⟨db,0,none⟩) 30 dc)∧W.cell? ⟨q,1,none⟩=some (.pointer (some ⟨c2,0,none⟩))∧W.cell? ⟨q2,2,none⟩=some (.int .i64 (x2:Nat))):=J fun W hW=>⟨(K4.out.grow hW).cells.2.2,((R14.out.below hW).cell 1).trans rfl,((R4.out.below hW).cell 2).trans rfl⟩
    have AFQ4:Hid (∀ W Q,Pq w4 base pw g4 Q W→W.cell? ⟨pk,2,none⟩=some (.slice (some ⟨db,0,none⟩) 30 dc)∧W.cell? ⟨q,1,none⟩=some (.pointer (some ⟨c2,0,none⟩))∧W.cell? ⟨q2,2,none⟩=some (.int .i64 (x2:Nat))):=J fun W Q hW=>⟨(K4.out.keep W4.out hW).cells.2.2,((zt.blk hW W4.out R14.out (by decide) (by decide)).cell 1).trans rfl,((zt.blk hW W4.out R4.out (by decide) (by decide)).cell 2).trans rfl⟩
    obtain ⟨f2,f1,f0⟩:=AFT4.out w4 (Below.refl _ _);clear hw4 hk4 l2 l1 l0 j2 j1 j0 n0 k1 m1;go_wp2_with fail
    go_region_held3 (fun W=>W.cell? ⟨pk,2,none⟩=some (.slice (some ⟨db,0,none⟩) 30 dc)∧W.cell? ⟨q,1,none⟩=some (.pointer (some ⟨c2,0,none⟩))∧W.cell? ⟨q2,2,none⟩=some (.int .i64 (x2:Nat))) (go_keep) (first | (go_at_call 126;(refine (HRG2.out _ (K4.out.dis.grow (zf w4))).mono ?_);rintro e w5 ⟨rfl,hb5⟩;have B5:=J ((zf w4).on hb5);obtain ⟨j2,j1,j0⟩:=AFT4.out w5 B5.out;clear hb5) | (go_at_call 133;(refine (HNU2.out _ B5.out).mono ?_);rintro e w6 ⟨rfl,hq⟩;have HQ6:=J (HB4K.out _ _ hq);obtain ⟨l2,l1,l0⟩:=AFQ4.out w6 _ hq;clear hq))
    clear l2 l1 l0 j2 j1 j0 f2 f1 f0;go_wp2;go_roundw;case rel=>
     refine ⟨k+1,by omega,by go_num,J ?_⟩;rw [HT.out.2,Ji,HTP.out];have:=HQ6.out;simp only [List.append_assoc] at this ⊢;exact this
    case measure=>simp [intOf];omega
  ·obtain rfl:k=L:=by omega
   have k0:=HKr.out.cells.1;have n0:=(R1r.out.cell 0).trans (show _=some (.pointer (some ⟨c1,0,none⟩)) from rfl);have HP:=J ((HW0.out.grow (zf wr)).sym (by have:=HWD.out;omega) (HC1r.out.below (zf wr)) 256 H256.out);have HTA:Hid (r.take k=r):=J (by rw [HL.out,List.take_length]);go_wp2_with fail
   go_still_tail 6,(by kernel_rfl)
   change wpList _ _ _ _ _ wr.drew;go_wp2_with fail
   refine HP.out.mono ?_;rintro e w3 ⟨rfl,hq⟩;have HQ:=J (Pq.back B1.out (HK0.out _ _ (Pq.undrew hq)));clear hq HP;go_wp2;go_end0;refine ⟨rfl,?_⟩;have:=HQ.out;rw [HTA.out,List.append_assoc] at this;exact this
theorem zaY {w:World}{ao:Option Addr}{zs:List Int}:Y.IS w ao zs↔IS w ao zs:=Iff.rfl
theorem Jz (ls:List Nat):nat (Y.ints ls)=ls:=by
 simp only [nat,Y.ints,List.map_map];exact (List.map_congr_left fun x _=>Int.toNat_natCast x).trans (List.map_id ls)
theorem ziT {ls:List Nat}(H:Ok ls):Vd (Y.ints ls):=by
 refine ⟨by rw [Y.zj];exact H.len,fun z hz=>?_⟩
 simp only [Y.ints,List.mem_map] at hz;obtain ⟨x,hx,rfl⟩:=hz;have:=H.le x hx;omega
theorem QY {ls:List Nat}(H:Ok ls) (ao:Option Addr) (c n:Nat) (w:World) (h:IS w ao (Y.ints ls)) (hn:n=ls.length):Calls prog 119 #[.slice ao n c] w (zjO w ls):=by
 subst hn;have:=zgi ao c (Y.ints ls) w h (ziT H) (by rw [Jz];exact H.few);rwa [Jz,Y.zj] at this
def zl5 (w:World) (fl ol:List Nat) (e:Ending) (w':World):Prop:=∃ c1 c2,e=.returned (.agg #[.pointer (some ⟨c1,0,none⟩),.pointer (some ⟨c2,0,none⟩)])∧zg w' c1 fl∧zg w' c2 ol∧Below w.heap.size w w'
theorem zmi {t:Array Value}{W:World}{q:Nat}{x0 x1:Value}(h4:t[4]? = some (.pointer (some ⟨q,0,none⟩))) (h:Blk W q 89 #[x0,x1]):(results Tryz.f78 t).run prog W=.ok (.agg #[x0,x1]) W:=by
 have e0:=(h.cell 0).trans (show _=some x0 from rfl);have e1:=(h.cell 1).trans (show _=some x1 from rfl);simp [results,results78,h4,go_sem,e0,e1]
theorem set2 {w w4:World}{q:Nat}(h:Below w.heap.size w w4) (hq:w.heap.size≤q) (x0 x1:Value):Below w.heap.size w ((w4.setCell ⟨q,0,none⟩ x0).setCell ⟨q,1,none⟩ x1):=by
 have h3:Touch (fun k=>w.heap.size≤k) w w4:=(Touch.of_below h:Touch (fun _=>False) w w4).mono fun _ h=>h.elim
 exact ((h3.setCell _ _ (.inr hq)).setCell _ _ (.inr hq)).below (Nat.le_refl _) fun k h=>h
theorem zg.set {w:World}{c q:Nat}{ls:List Nat}{t:TypeId}{cs:Array Value}(h:zg w c ls) (hq:Blk w q t cs) (ht:t≠197∧t≠218∧t≠3) (i:Nat) (u:Value):zg (w.setCell ⟨q,i,none⟩ u) c ls:=by
 obtain ⟨ho,gw,go,F,k1,k2,k3,k4⟩:=h;have hne:∀ {b:Nat} {t':TypeId} {cs':Array Value},Blk w b t' cs'→t'≠t→q≠b:=fun hb hn e=>by
  subst e;rw [Blk] at hb hq;rw [hb] at hq;simp at hq;exact hn hq.2
 exact ⟨ho,gw,go,F,k1.other i u (hne k1 (Ne.symm ht.1)),k2.other i u (hne k2 (Ne.symm ht.2.1)),k3.other i u (hne k3 (Ne.symm ht.2.2)),k4⟩
set_option maxHeartbeats 1600000 in
theorem zab (fl ol:List Nat) (H1:Ok fl) (H2:Ok ol) (a1 a2:Option Addr) (k1 k2 n1 n2:Nat) (w:World) (h1:IS w a1 (Y.ints fl)) (h2:IS w a2 (Y.ints ol)) (e1:n1=fl.length) (e2:n2=ol.length) :
  Calls prog 78 #[.slice a1 n1 k1,.slice a2 n2 k2] w (zl5 w fl ol):=by
 obtain ⟨w1,hw1⟩:=exq (w.alloc (.cells #[.pointer none,.pointer none] 89));have B1:Hid (Below w.heap.size w w1):=J (by rw [hw1];exact (Below.refl _ _).alloc (Nat.le_refl _) _);obtain ⟨q,hq⟩:=exq (w.heap.size);have HQ:=J hq;have R1:Hid (Blk w1 q 89 #[.pointer none,.pointer none]):=J (by rw [hw1,hq];exact Blk.made _ _ _);have HI1:=J (show IS w1 a1 (Y.ints fl) from Y.IS.below (zaY.2 h1) B1.out);have HI2:=J (show ∀ W,Below w1.heap.size w1 W→IS W a2 (Y.ints ol) from fun W hW=>Y.IS.below (zaY.2 h2) (B1.out.on hW));have HO1:=J H1;have HO2:=J H2;have HE1:=J e1;have HE2:=J e2;clear h1 h2 H1 H2 e1 e2;go_enter func78,ntmps78;go_upto_region 1 with fail
 rw [←hw1,←hq];clear hw1 hq;go_wp2_with fail
 refine (QY HO1.out a1 k1 n1 w1 HI1.out HE1.out).mono ?_;rintro e w2 ⟨c1,rfl,hc,hb⟩;have C2:=J hc;have B2:=J hb;clear hc hb;go_wp2_with fail
 refine (QY HO2.out a2 k2 n2 w2 (HI2.out w2 B2.out) HE2.out).mono ?_;rintro e w3 ⟨c2,rfl,hc,hb⟩;have C3:=J (C2.out.below hb);have D3:=J hc;have B3:=J (B2.out.on hb);have R3:=J (R1.out.below B3.out);clear hc hb;have z0:=(R3.out.cell 0).trans (show _=some (.pointer none) from rfl);have z1:=(R3.out.cell 1).trans (show _=some (.pointer none) from rfl);have f0:=R3.out.free 0;have f1:=R3.out.free 1;go_wp2;refine bodyPost_ret (zmi rfl ((R3.out.setCell 0 _).setCell 1 _)) rfl ⟨c1,c2,rfl,?_,?_,set2 (B1.out.on B3.out) (by rw [HQ.out];exact Nat.le_refl _) _ _⟩
 ·exact (C3.out.set R3.out (by decide) 0 _).set (R3.out.setCell 0 _) (by decide) 1 _
 ·exact (D3.out.set R3.out (by decide) 0 _).set (R3.out.setCell 0 _) (by decide) 1 _
theorem zcY:Y.ints zU=qo:=by decide +kernel
theorem zdW:Y.ints ql=xT:=by decide +kernel
structure PkX (w:World) (pk pw lb db lc dc c1 c2:Nat):Prop where
 a:PkA w pk pw lb db lc dc
 f:∃ cs,Blk w pk 91 cs∧cs[3]? = some (.pointer (some ⟨c1,0,none⟩))∧cs[4]? = some (.pointer (some ⟨c2,0,none⟩))
 x1:zg w c1 zU
 x2:zg w c2 ql
theorem PkX.grow {w w1:World}{pk pw lb db lc dc c1 c2:Nat}(h:PkX w pk pw lb db lc dc c1 c2) (hb:Below w.heap.size w w1):PkX w1 pk pw lb db lc dc c1 c2:=by
 obtain ⟨cs,h1,h2⟩:=h.f;exact ⟨h.a.grow hb,⟨cs,h1.below hb,h2⟩,h.x1.below hb,h.x2.below hb⟩
theorem PkX.keep {w w1:World}{pk pw lb db lc dc c1 c2:Nat}(h:PkX w pk pw lb db lc dc c1 c2){base:Nat}{g:Option Nat}{P Q:List (Nat × Nat)}(hw:Wq w base pw g P) (hq:Pq w base pw g Q w1):PkX w1 pk pw lb db lc dc c1 c2:=by
 obtain ⟨cs,h1,h2⟩:=h.f;exact ⟨h.a.keep hw hq,⟨cs,zt.blk hq hw h1 (by decide) (by decide),h2⟩,h.x1.keep hw hq,h.x2.keep hw hq⟩
theorem PkX.fixed {w:World}{pk pw lb db lc dc c1 c2:Nat}(h:PkX w pk pw lb db lc dc c1 c2):w.cell? ⟨pk,3,none⟩=some (.pointer (some ⟨c1,0,none⟩))∧w.cell? ⟨pk,4,none⟩=some (.pointer (some ⟨c2,0,none⟩)):=by
 obtain ⟨cs,h1,h2,h3⟩:=h.f;rw [h1.cell,h1.cell];exact ⟨h2,h3⟩
theorem jV (w:World):Calls prog 47 #[] w fun e w'=>∃ pw,e=.returned (.pointer (some ⟨pw,0,none⟩))∧Wq w' w.heap.size pw none []∧Below w.heap.size w w':=by
 go_enter func47,ntmps47;go_wp2;go_ret;exact ⟨w.heap.size,rfl,⟨[],Ob.made (sv:=.slice none 0 0) 0 (by decide) Bs.nil (World.ownsRow_nil _ _ _ _) (Nat.le_refl _) rfl,WI.nil,rfl⟩,(Below.refl _ _).alloc (Nat.le_refl _) _⟩
def zme (w:World) (e:Ending) (w':World):Prop:=∃ pk pw lb db lc dc c1 c2,e=.returned (.pointer (some ⟨pk,0,none⟩))∧Wq w' w.heap.size pw none []∧PkX w' pk pw lb db lc dc c1 c2∧Below w.heap.size w w'
set_option maxHeartbeats 1600000 in
theorem JJ (w:World):Calls prog 54 #[] w (zme w):=by
 have HL:Hid (∀ W:World,Calls prog 75 #[.int .i64 (257:Nat),.func (.func 76) #[] #[]] W (zki W 29 257 LBs LXs)):=J fun W=>
  KU 76 257 29 (.inl rfl) LBs LXs (by omega) (by omega) W (fun W' i hi=>by
   refine (yu (257+i) W').mono ?_;rintro e w' ⟨rfl,rfl⟩;rw [XP i hi];exact ⟨rfl,rfl⟩) (fun W'=>by
   refine (yu (257+29) W').mono ?_;rintro e w' ⟨rfl,rfl⟩;exact ⟨rfl,rfl⟩)
 have HD:Hid (∀ W:World,Calls prog 75 #[.int .i64 (0:Nat),.func (.func 77) #[] #[]] W (zki W 30 0 DBs DXs)):=J fun W=>
  KU 77 0 30 (.inr rfl) DBs DXs (by omega) (by omega) W (fun W' i hi=>by
   refine (jP (0+i) W').mono ?_;rintro e w' ⟨rfl,rfl⟩;rw [Nat.zero_add,XG i hi];exact ⟨rfl,rfl⟩) (fun W'=>by
   refine (jP (0+30) W').mono ?_;rintro e w' ⟨rfl,rfl⟩;exact ⟨rfl,rfl⟩)
 go_enter func54,ntmps54;go_wp2_with fail
 refine (jV w).mono ?_;rintro e w1 ⟨pw,rfl,hw,hb⟩;have W1:=J hw;have B1:=J hb;clear hw hb;go_wp2_with fail
 refine (HL.out w1).mono ?_;rintro e w2 ⟨lb,lc,rfl,hr,hb,hb2,hcp⟩;have W2:=J (W1.out.grow hb);have B2:=J (B1.out.on hb);have L2:=J hr;have HC1:=J hcp;clear hr hb hb2 hcp;go_wp2_with fail
 refine (HD.out w2).mono ?_;rintro e w3 ⟨db,dc,rfl,hr,hb,hb2,hcp⟩;have W3:=J (W2.out.grow hb);have B3:=J (B2.out.on hb);have L3:=J (L2.out.grow hb);have D3:=J hr;have HC2:=J hcp;clear hr hb hb2 hcp;go_wp2_with fail
 refine (Qe w3).mono ?_;rintro e w4 ⟨a1,k1,a2,k2,rfl,i1,i2,hb⟩;have W4:=J (W3.out.grow hb);have B4:=J (B3.out.on hb);have L4:=J (L3.out.grow hb);have D4:=J (D3.out.grow hb);rw [←zcY] at i1;rw [←zdW] at i2;have I1:=J i1;have I2:=J i2;clear i1 i2 hb;go_wp2_with fail
 refine (zab zU ql ku.1 kC.1 a1 a2 k1 k2 288 32 w4 I1.out I2.out (by decide) (by decide)).mono ?_;rintro e w5 ⟨c1,c2,rfl,h1,h2,hb⟩;have W5:=J (W4.out.grow hb);have B5:=J (B4.out.on hb);have L5:=J (L4.out.grow hb);have D5:=J (D4.out.grow hb);have C5:=J h1;have E5:=J h2;clear h1 h2 hb;go_wp2;go_ret;have hb:=(Below.refl w5.heap.size w5).alloc (Nat.le_refl _) (.cells #[.pointer (some ⟨pw,0,none⟩),.slice (some ⟨lb,0,none⟩) 29 lc,.slice (some ⟨db,0,none⟩) 30 dc,.pointer (some ⟨c1,0,none⟩),.pointer (some ⟨c2,0,none⟩)] 91);have hB:=Blk.made w5 91 #[.pointer (some ⟨pw,0,none⟩),.slice (some ⟨lb,0,none⟩) 29 lc,.slice (some ⟨db,0,none⟩) 30 dc,.pointer (some ⟨c1,0,none⟩),.pointer (some ⟨c2,0,none⟩)];exact ⟨w5.heap.size,pw,lb,db,lc,dc,c1,c2,rfl,W5.out.grow hb,⟨⟨⟨_,hB,rfl,rfl,rfl⟩,L5.out.grow hb,D5.out.grow hb,HC1.out,HC2.out⟩,⟨_,hB,rfl,rfl⟩,C5.out.below hb,E5.out.below hb⟩,B5.out.on hb⟩
theorem holds_one {a:List Nat}{P:List (Nat × Nat)}(hf:xI P) (h:jL a P):a=qz P:=by
 have k:=xP hf;have h1:=h.2.1.lo;have h2:=h.2.1.hi;have k1:=k.2.1.lo;have k2:=k.2.1.hi;exact zij h.1 k.1 (by omega) (h.2.2.trans k.2.2.symm)
theorem Wq.out {w:World}{base pw:Nat}{g:Option Nat}{P:List (Nat × Nat)}(h:Wq w base pw g P) (hf:xI P) (hn:wid P≤7000000000):Calls prog 49 #[.pointer (some ⟨pw,0,none⟩)] w (Kept w (qz P)):=by
 obtain ⟨bs,ho,hw,hv⟩:=h;have hs:=hw.small hn;have e:=holds_one hf ⟨ho.hb,hw,hv⟩;subst e;refine (ho.wout (by omega)).mono ?_;rintro e w' ⟨a,c,rfl,hown,_,ht⟩;exact ⟨a,c,rfl,hown,ht.none_below⟩
theorem zfo:∀ (f pos:Nat) (b:List Nat) (last:Bool),wid (kZ f pos b last)≤42+9*b.length:=by
 intro f;induction f with
 | zero=>intro pos b last;exact Nat.zero_le _
 | succ f ih=>
  intro pos b last;rw [kZ];split
  ·have:=xO pos b last
   unfold up8 at this;omega
  ·rw [zh]
   have h1:=xO pos (b.take 65535) false;unfold up8 at h1;have h3:=ih (pos+wid (xe pos (b.take 65535) false)) (b.drop 65535) last;rw [List.length_take] at h1;rw [List.length_drop] at h3;omega
theorem uc (pos:Nat) (b:List Nat) (last:Bool):wid (xg pos b last)≤42+9*b.length:=zfo _ _ _ _
theorem zgc:∀ (f pos:Nat) (b:List Nat) (last:Bool),Bs b→xI (kZ f pos b last):=by
 intro f;induction f with
 | zero=>intro pos b last _ c hc;cases hc
 | succ f ih=>
  intro pos b last hb;rw [kZ];split
  ·rename_i h;exact Je pos hb h last
  ·exact (Je pos (fun x hx=>hb x (List.mem_of_mem_take hx)) (by rw [List.length_take];omega) false).app (ih _ _ _ fun x hx=>hb x (List.mem_of_mem_drop hx))
theorem jo (pos:Nat){b:List Nat}(last:Bool) (hb:Bs b):xI (xg pos b last):=zgc _ _ _ _ hb
def stU (bs:List Nat):List Nat→Nat→List (Nat × Nat)→List (Nat × Nat)
 | [],_,P=>P
 | e::es,a,P=>stU bs es e (P++xg (wid P) ((bs.drop a).take (e-a)) (decide (e=bs.length)))
def atF (ends:List Nat) (i:Nat):Nat:=if i=0 then 0 else ends.getD (i-1) 0
theorem zk1 (bs ends:List Nat){i:Nat}(hi:i<ends.length) (P:List (Nat × Nat)):stU bs (ends.drop i) (atF ends i) P=stU bs (ends.drop (i+1)) (atF ends (i+1)) (P++xg (wid P) ((bs.drop (atF ends i)).take (ends.getD i 0-atF ends i)) (decide (ends.getD i 0=bs.length))):=by
 have e:ends.getD i 0=ends[i]:=by rw [List.getD_eq_getElem?_getD,List.getElem?_eq_getElem hi];rfl
 have e2:atF ends (i+1)=ends[i]:=by unfold atF;rw [if_neg (by omega),Nat.add_sub_cancel,e]
 rw [List.drop_eq_getElem_cons hi,stU,e2,e]
set_option maxHeartbeats 1600000 in
theorem vf {w:World}{b off cb ce:Nat}{bs ends:List Nat}{eo:Option Addr}(hs:zi w (.slice (some ⟨b,off,none⟩) bs.length cb) bs) (hb:Bs bs) (hl':bs.length≤300000) (hcb:bs.length≤cb) (hi:IS w eo (Y.ints ends))
  (hE:∀ i,i<ends.length→atF ends i<ends.getD i 0∧ends.getD i 0≤bs.length) (hel:ends.length≤1000) :
  Calls prog 32 #[.slice (some ⟨b,off,none⟩) bs.length cb,.slice eo ends.length ce] w (Kept w (qz (stU bs ends 0 []))):=by
 obtain ⟨n,hn⟩:=exq (bs.length);obtain ⟨L,hL⟩:=exq (ends.length);have HN:=J hn;have HL:=J hL;have HE:=J hE;have HS:=J hs;have HB:=J hb;have HI:=J hi;have hl:=hl';rw [←hn] at hl hcb ⊢;rw [←hL] at hel ⊢;clear hn hL hE hs hb hi hl';go_enter func32,ntmps32;go_wp2_with fail
 refine (jV w).mono ?_;rintro e w1 ⟨pw,rfl,hw,hbl⟩;have W1:=J hw;have B1:=J hbl;clear hw hbl;go_upto_region 2 with fail
 obtain ⟨w2,hw2⟩:=exq (w1.alloc (.cells #[.pointer (some ⟨pw,0,none⟩),.slice none 0 0,.slice none 0 0,.pointer none,.pointer none] 91));obtain ⟨pk,hpk⟩:=exq (w1.heap.size);have B12:Hid (Below w1.heap.size w1 w2):=J (by rw [hw2];exact (Below.refl _ _).alloc (Nat.le_refl _) _);have PK2:Hid (PkO w2 pk pw):=J ⟨_,by rw [hw2,hpk];exact Blk.made _ _ _,rfl⟩;have W2:=J (W1.out.grow B12.out);have B2:=J (B1.out.on B12.out);rw [←hw2,←hpk];clear hw2 hpk B12 W1 B1;have hbw:Hid (n≠0→b<w.heap.size):=J fun h0=>zi.lt HS.out (by rw [←HN.out];omega) b rfl
 have S2:=J (HS.out.grow B2.out);have I2:=J (IS.below HI.out B2.out);obtain ⟨PF,hPF⟩:=exq (stU bs ends 0 []);have HPF:=J hPF;rw [←hPF];clear hPF;go_wp2_with fail
 go_loopw [6,13] (fun v6 v13 wr=>∃ (i:Nat) (P:List (Nat × Nat)),i≤L∧v6=.int .i64 (atF ends i:Nat)∧v13=.int .i64 (i:Nat)∧Hid (stU bs (ends.drop i) (atF ends i) P=PF∧xI P∧wid P≤51*atF ends i∧atF ends i≤n)∧Hid (Pq w2 w.heap.size pw none P wr)) (fun _ v13 _=>L-(intOf v13).toNat)
 case atStart=>exact ⟨0,[],Nat.zero_le _,rfl,rfl,J ⟨HPF.out.symm,(fun c hc=>by cases hc),Nat.zero_le _,Nat.zero_le _⟩,J (Pq.refl W2.out)⟩
 case round=>
  obtain ⟨i,P,hi,rfl,rfl,HX,HQ⟩:=hrel;obtain ⟨a,ha⟩:=exq (atF ends i);have HA:=J ha;have hx3:=HX.out.2.2.1;have hx4:=HX.out.2.2.2;rw [←ha] at hx3 hx4 ⊢;clear ha;by_cases hlt:i<L
  ·have hlt':(i:Int)<L:=by omega
   have hie:i<ends.length:=by rw [←HL.out];exact hlt
   obtain ⟨e,he⟩:=exq (ends.getD i 0);have hae:=HE.out i hie;rw [←HA.out,←he,←HN.out] at hae;obtain ⟨hae1,hae2⟩:=hae;obtain ⟨bi,oi,rfl,q1⟩:=(IS.touch I2.out (show Touch (xG pw none) w2 wr from by obtain ⟨_,_,ht,_⟩:=HQ.out;exact ht) (fun b' off' e' hne hf=>by
    have h1:=(Wr.foot W2.out hf).1;have h2:=IS.lt HI.out b' off' e' hne;omega)).at (show i<(Y.ints ends).length by rw [Y.zj];exact hie)
   rw [Y.ints_at,←he] at q1;have HG:Hid (stU bs (ends.drop (i+1)) (atF ends (i+1)) (P++xg (wid P) ((bs.drop a).take (e-a)) (decide (e=bs.length)))=PF):=J (by have:=HX.out.1;rw [zk1 bs ends hie,←HA.out,←he] at this;exact this);have HA2:Hid (atF ends (i+1)=e):=J (by unfold atF;rw [if_neg (by omega),Nat.add_sub_cancel,he]);obtain ⟨m,hm⟩:=exq (e-a);obtain ⟨ls,hls⟩:=exq (decide (e=bs.length));rw [←hm,←hls] at HG;have hlast:((e:Int) == (n:Int))=ls:=by
    rw [hls,←HN.out];by_cases c:e=n
    ·subst c;simp
    ·rw [decide_eq_false c];simp;omega
   have hkd:e-a=m:=hm.symm;have hlen:((bs.drop a).take m).length=m:=by rw [List.length_take,List.length_drop,←HN.out];omega
   have HLEN:=J hlen;have PKr:=J (PK2.out.keep W2.out HQ.out);have SUB:Hid (zi wr (.slice (some ⟨b,off+a,none⟩) m (cb-a)) ((bs.drop a).take m)):=J (zi.mid (zi.put S2.out W2.out HQ.out (fun k hk=>by cases hk;exact hbw.out (by omega))) a m (by rw [←HN.out];omega) (by rw [←HN.out];omega))
   have HM:=J (And.intro hm (show m≤300000 by omega));have hki:(a:Int)≤e:=by omega
   have hkc:(e:Int)≤cb:=by omega
   have hkc2:(a:Int)≤cb:=by omega
   obtain ⟨g1,hw1,hk1⟩:=HQ.out.then;have W3:=J hw1;have K3:=J hk1;have HSC:Hid (∀ W,W=wr→Calls prog 48 #[.pointer (some ⟨pk,0,none⟩),.slice (some ⟨b,off+a,none⟩) m (cb-a),.bool ls] W fun e w'=>e=.returned (.tuple #[])∧Pq w2 w.heap.size pw none (P++xg (wid P) ((bs.drop a).take m) ls) w'):=J fun W hW=>by
    subst hW;exact (zci W3.out PKr.out (by omega) ls SUB.out (fun k hk=>by cases hk;exact hbw.out (by omega)) (fun x hx=>HB.out x (List.mem_of_mem_drop (List.mem_of_mem_take hx))) (by rw [HLEN.out];omega)).mono fun _ _ k=>⟨k.1,K3.out _ _ k.2⟩
   clear hm hls he hlen hw1 hk1 hie;go_wp2_with fail
   with_reducible refine (HSC.out _ rfl).mono ?_
   rintro e' w4 ⟨rfl,hq⟩;have HQ4:=J hq;clear hq;go_wp2;go_roundw;case rel=>
    have h5:=uc (wid P) ((bs.drop a).take m) ls;rw [HLEN.out] at h5;refine ⟨i+1,_,by omega,by rw [HA2.out],by go_num,J ⟨HG.out,HX.out.2.1.app (jo _ _ fun x hx=>HB.out x (List.mem_of_mem_drop (List.mem_of_mem_take hx))),?_,by rw [HA2.out];exact hae2⟩,HQ4⟩
    rw [HA2.out,zh];omega
   case measure=>simp [intOf];omega
  ·obtain rfl:i=L:=by omega
   have HPE:Hid (P=PF):=J (by
    have h5:=HX.out.1;rw [HL.out,List.drop_length] at h5;exact h5)
   obtain ⟨g1,hw1,_⟩:=HQ.out.then;have c0:=(PK2.out.keep W2.out HQ.out).cell;have HO:=J (Wq.out hw1 HX.out.2.1 (by omega));clear hw1;go_wp2_with fail
   with_reducible refine HO.out.mono ?_
   rintro e' w4 ⟨ao,c,rfl,hown,hbl⟩;have HF:=J (And.intro hown hbl);clear hown hbl HO;go_wp2;go_ret;rw [show stU bs ends 0 []=P from HPF.out.symm.trans HPE.out.symm];have hb1:Below w.heap.size w wr:=B2.out.trans (zt.low HQ.out W2.out);exact ⟨ao,c,rfl,zz HF.out.1 hb1.size,hb1.trans (HF.out.2.mono hb1.size)⟩
structure Xg (w:World) (p q:Nat) (l m:Int):Prop where
 lo:w.cell? ⟨p,0,none⟩=some (.int .i64 l)
 hi:w.cell? ⟨q,0,none⟩=some (.int .i64 m)
def fnO (p q:Nat):Value:=.func (.func 40) #[] #[.pointer (some ⟨p,0,none⟩),.pointer (some ⟨q,0,none⟩)]
theorem Xg.lt {w:World}{p q:Nat}{l m:Int}(h:Xg w p q l m):p<w.heap.size∧q<w.heap.size:=
 ⟨World.block_lt_of_cell? w _ h.lo,World.block_lt_of_cell? w _ h.hi⟩
theorem Xg.on {w w':World}{p q:Nat}{l m:Int}(h:Xg w p q l m) (hb:Below w.heap.size w w'):Xg w' p q l m:=
 ⟨(hb.cell (p:=⟨p,0,none⟩) h.lt.1).trans h.lo,(hb.cell (p:=⟨q,0,none⟩) h.lt.2).trans h.hi⟩
theorem Xn (l m:Int) (w:World):Calls prog 24 #[.int .i64 l,.int .i64 m] w fun e w'=>∃ p q,e=.returned (fnO p q)∧Xg w' p q l m∧Below w.heap.size w w'∧w.heap.size≤p∧w.heap.size≤q:=by
 go_enter func24,ntmps24;go_wp2;go_ret;refine ⟨_,_,rfl,?_,((Below.refl _ w).alloc (Nat.le_refl _) _).alloc (by simp) _,Nat.le_refl _,by simp⟩;exact ⟨by simp,by simp⟩
theorem za1 (p q:Nat) (l m n:Int) (w:World) (hK:Xg w p q l m) :
  Calls prog 40 #[.int .i64 n,.pointer (some ⟨p,0,none⟩),.pointer (some ⟨q,0,none⟩)] w fun e w'=>e=.returned (.bool (decide (n<l∨m<n)))∧w'=w:=by
 have h1:=hK.lo;have h2:=hK.hi;clear hK;by_cases c:n<l
 ·rw [decide_eq_true (Or.inl c)]
  go_enter func40,ntmps40;go_wp2;go_ret;exact ⟨rfl,rfl⟩
 ·have c':l≤n:=Int.not_lt.mp c
  have d1:decide (n<l)=false:=decide_eq_false c;by_cases c2:m<n
  ·rw [decide_eq_true (Or.inr c2)]
   clear c;go_enter func40,ntmps40;go_wp2;go_ret;exact ⟨rfl,rfl⟩
  ·have d2:decide (m<n)=false:=decide_eq_false c2
   have c3:n≤m:=Int.not_lt.mp c2;rw [decide_eq_false (fun h=>h.elim c c2)];clear c c2;go_enter func40,ntmps40;go_wp2;go_ret;exact ⟨rfl,rfl⟩
theorem vQ (w:World) (n:Nat) (hn:n≤1099511627776):Calls prog 14 #[.int .i64 (n:Nat)] w fun e w'=>e=.returned (.int .i64 (bnd n:Nat))∧Below w.heap.size w w':=by
 obtain ⟨N,hN⟩:=exq (bnd n);have hN':N=n+5*max ((n+65534)/65535) 1:=hN;rw [←hN];obtain ⟨k,hk⟩:=exq ((n+65534)/65535);obtain ⟨b,hb⟩:=exq (max k 1);rw [←hk,←hb] at hN';have e1:max (1:Int) (k:Int)=(b:Int):=by omega
 have e0:((n:Int)+65534)/65535=(k:Int):=by omega
 have hk9:k≤16777474:=by omega
 have hb9:b≤16777474:=by omega
 have e5:IntKind.i64.wrap ((5:Int)*b)=5*(b:Int):=by rw [IntKind.wrap_i64];omega
 have e6:IntKind.i64.wrap (5*(b:Int)+n)=(N:Int):=by rw [IntKind.wrap_i64];omega
 have e7:5*(b:Int)+n=(N:Int):=by omega
 have hw1:IntKind.i64.wrap ((n:Int)+65535)=(n:Int)+65535:=by rw [IntKind.wrap_i64];omega
 have hw2:IntKind.i64.wrap ((n:Int)+65535-1)=(n:Int)+65534:=by rw [IntKind.wrap_i64];omega
 have hd:decide ((n:Int)<0∨(1099511627776:Int)<n)=false:=decide_eq_false (by omega);have HD:=J hd;clear hN hN' hk hb hd;go_enter func14,ntmps14;go_wp2_with fail
 refine (Xn 0 1099511627776 w).mono ?_;rintro e w1 ⟨p,q,rfl,hK,hb,_,_⟩;have B1:=J hb;have K1:=J hK;clear hb hK;unfold fnO;go_wp2_with fail
 refine (za1 p q 0 1099511627776 n w1 K1.out).mono ?_;rw [HD.out];rintro e w2 ⟨rfl,rfl⟩;go_wp2;go_ret;exact ⟨rfl,B1.out⟩
theorem UW (pos:Nat) (b:List Nat) (last:Bool) (h8:pos%8=0) (hl:b.length≤65535):val (xe pos b last)=num (hd8 (if last then 1 else 0) b.length++b)∧wid (xe pos b last)=8*(hd8 (if last then 1 else 0) b.length++b).length:=by
 have hu:up8 (pos+3)-(pos+3)=5:=by unfold up8;omega
 have hw:=xO pos b last;have hu2:up8 (pos+3)=pos+8:=by unfold up8;omega
 constructor
 ·simp only [xe,val,KK,hd8,List.cons_append,List.nil_append,num,hu,Nat.reducePow]
  omega
 ·simp only [hd8,List.length_append,List.length_cons,List.length_nil]
  omega
theorem zg0:∀ (f pos:Nat) (b:List Nat),pos%8=0→val (kZ f pos b true)=num (uC f b)∧wid (kZ f pos b true)=8*(uC f b).length:=by
 intro f;induction f with
 | zero=>intro pos b _;exact ⟨rfl,rfl⟩
 | succ f ih=>
  intro pos b h8;rw [kZ,uC];split
  ·rename_i h;exact UW pos b true h8 h
  ·have hlen:(b.take 65535).length=65535:=by rw [List.length_take];omega
   obtain ⟨a1,a2⟩:=UW pos (b.take 65535) false h8 (by omega);rw [hlen] at a1 a2;have e0:(if false=true then 1 else 0)=0:=rfl;rw [e0] at a1 a2;obtain ⟨b1,b2⟩:=ih (pos+wid (xe pos (b.take 65535) false)) (b.drop 65535) (by rw [a2];omega);rw [a2] at b1 b2;rw [yS,zh,yY,a2,a1,b1,b2];generalize hd8 0 65535++b.take 65535=A;refine ⟨?_,by rw [List.length_append];omega⟩;rw [show (256:Nat)=2^8 from rfl,←Nat.pow_mul]
theorem zfh (l n:Nat) (hl:l<2) (hn:n≤65535):Bs (hd8 l n):=fun x hx=>by
 simp only [hd8,List.mem_cons,List.not_mem_nil,or_false] at hx;rcases hx with rfl | rfl | rfl | rfl | rfl <;> omega
theorem ziu:∀ (f:Nat) (b:List Nat),Bs b→Bs (uC f b):=by
 intro f;induction f with
 | zero=>intro b _ x hx;cases hx
 | succ f ih=>
  intro b hb;rw [uC];split
  ·rename_i h;exact (zfh 1 _ (by omega) h).app hb
  ·exact ((zfh 0 _ (by omega) (by omega)).app fun x hx=>hb x (List.mem_of_mem_take hx)).app (ih _ fun x hx=>hb x (List.mem_of_mem_drop hx))
theorem kI {bs:List Nat}(hb:Bs bs):qz (xg 0 bs true)=jY bs:=by
 obtain ⟨h1,h2⟩:=zg0 (bs.length+1) 0 bs rfl;have hB:=ziu (bs.length+1) bs hb;refine (holds_one (jo 0 true hb) ⟨hB,⟨?_,?_,?_⟩,h1.symm⟩).symm
 ·show wid (kZ _ _ _ _)≤_;rw [h2];exact Nat.le_refl _
 ·show _<wid (kZ _ _ _ _)+8;rw [h2];exact Nat.lt_add_of_pos_right (by omega)
 ·show num (uC _ _)<2^wid (kZ _ _ _ _)
  rw [h2,←h1,Nat.pow_mul];rw [h1];exact uD hB
theorem XK {w:World}{b off cb:Nat}{bs:List Nat}(hs:zi w (.slice (some ⟨b,off,none⟩) bs.length cb) bs) (hb:Bs bs) (hl:bs.length≤300000) (h0:0<bs.length) (hcb:bs.length≤cb) :
  Calls prog 17 #[.slice (some ⟨b,off,none⟩) bs.length cb] w (Kept w (jY bs)):=by
 obtain ⟨n,hn⟩:=exq (bs.length);obtain ⟨w1,hw1⟩:=exq (w.alloc (.cells #[.int .i64 (n:Nat)] 3));obtain ⟨q,hq⟩:=exq (w.heap.size);have B1:Hid (Below w.heap.size w w1):=J (by rw [hw1];exact (Below.refl _ _).alloc (Nat.le_refl _) _);have HI:Hid (IS w1 (some ⟨q,0,none⟩) (Y.ints [n])):=J (by
  refine .inr ⟨q,0,rfl,fun j hj=>?_⟩;have hj0:j=0:=by rw [Y.zj] at hj;simp at hj;exact hj
  subst hj0;rw [hw1,hq,(Blk.made w 3 _).cell];rfl)
 have h:=vf (ce:=1) (hs.grow B1.out) hb hl hcb HI.out (fun i hi=>by
  have:i=0:=by simp at hi;exact hi
  subst this;exact ⟨by show 0<n;omega,by show n≤_;omega⟩) (by simp)
 have e:qz (stU bs [n] 0 [])=jY bs:=by
  rw [stU,stU,hn,decide_eq_true rfl,List.nil_append,Nat.sub_zero,List.drop_zero,List.take_length];exact kI hb
 rw [e,←hn,show ([n]:List Nat).length=1 from rfl] at h;have HC:=J h;rw [←hn];clear hs hb hl h0 hcb h e hn;go_enter func17,ntmps17;go_wp2_with fail
 rw [←hw1,←hq];clear hw1 hq;with_reducible refine HC.out.mono ?_
 rintro e' w4 ⟨ao,c,rfl,hown,hbl⟩;have HF:=J (And.intro hown hbl);clear hown hbl HC;go_wp2;go_ret;exact ⟨ao,c,rfl,zz HF.out.1 B1.out.size,B1.out.on HF.out.2⟩
theorem zbJ (w:World) (n:Int) (h:n<0∨1099511627776<n):Calls prog 14 #[.int .i64 n] w fun e w'=>e=.returned (.int .i64 0)∧Below w.heap.size w w':=by
 have HD:=J (decide_eq_true h);clear h;go_enter func14,ntmps14;go_wp2_with fail
 refine (Xn 0 1099511627776 w).mono ?_;rintro e w1 ⟨p,q,rfl,hK,hb,_,_⟩;have B1:=J hb;have K1:=J hK;clear hb hK;unfold fnO;go_wp2_with fail
 refine (za1 p q 0 1099511627776 n w1 K1.out).mono ?_;rw [HD.out];rintro e w2 ⟨rfl,rfl⟩;go_wp2;go_ret;exact ⟨rfl,B1.out⟩
end
section
open Go.RowKit
theorem zfs:∀ (fu:Nat) (bs:List Nat),bs.length<fu→(uC fu bs).length=bnd bs.length:=by
 intro fu;induction fu with
 | zero=>intro bs h;omega
 | succ fu ih=>
  intro bs h;rw [uC];unfold bnd;have h5:∀ a n,(hd8 a n).length=5:=fun _ _=>rfl
  split
  ·rw [List.length_append,h5];omega
  ·have hd:(bs.drop 65535).length=bs.length-65535:=List.length_drop
   have:=ih (bs.drop 65535) (by omega);rw [List.length_append,List.length_append,h5,this,hd,List.length_take];unfold bnd;omega
theorem XZ (bs:List Nat):(jY bs).length=bnd bs.length:=zfs _ _ (Nat.lt_succ_self _)
end
end Go.Proofs.YtacpfpghokcdlaaGreatDoor
