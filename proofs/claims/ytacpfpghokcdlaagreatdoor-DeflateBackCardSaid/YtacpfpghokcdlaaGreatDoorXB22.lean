/- Part 22. -/
import Derived.Test.YtacpfpghokcdlaaGreatDoorXB21
open Go.Proofs.Tryz
namespace Go.Proofs.YtacpfpghokcdlaaGreatDoor
set_option maxRecDepth 100000
section
open Go.Lib renaming hid → J
open Go.RowKit
section
variable {B p:Nat}{rv:Value}{bs:List Nat}{lim nb er:Nat}{w:World}{ov:Value}{s:Sta}
structure Ol (B p:Nat) (rv:Value) (bs:List Nat) (lim nb:Nat) (w:World) (ov:Value) (q:Nat) (l:List Nat) (er:Nat) (wr:World) (ov':Value) (s':Sta):Prop where
 qs:QS B p rv bs lim nb er wr ov' s'
 m:Qv p w ov wr ov'
 order:Blk wr q 3 (va 19 fun j => .int .i64 (ord.getD j 0:Nat))
 row:Blk wr (q+1) 3 (ia 19 fun j=>(zp l).getD j 0)
 lo:w.heap.size≤q
 ne:¬QT p ov' q∧¬QT p ov' (q+1)
 rne:∀ k,rv.ownBlock=some k→k<q
theorem zc6 {q:Nat}{l:List Nat}{wr w2:World}{ov1 ov2:Value}{s1 s2:Sta}{er2 v i o:Nat}(h:Ol B p rv bs lim nb w ov q l er wr ov1 s1) (h2:QS B p rv bs lim nb er2 w2 ov2 s2) (m2:Qv p wr.drew ov1 w2 ov2) (hi:i=l.length) (hi9:i<19) (ho:o=ord.getD i 0) :
  w2.cell? ⟨q,i,none⟩=some (.int .i64 (o:Nat))∧w2.frozen? ⟨q+1,o,none⟩=false∧w2.cell? ⟨q+1,o,none⟩=some (.int .i64 ((zp l).getD o 0:Nat))∧
   Hid (Ol B p rv bs lim nb w ov q (l++[v]) er2 (w2.setCell ⟨q+1,o,none⟩ (.int .i64 (v:Nat))) ov2 s2):=by
 have ho19:o<19:=by rw [ho];exact zbw i hi9
 have hD:=h.qs.drew;have hord:Blk w2 q 3 (va 19 fun j => .int .i64 (ord.getD j 0:Nat)):=(show Blk wr.drew q 3 _ from h.order).touch m2.touch h.ne.1;have hrow:Blk w2 (q+1) 3 (ia 19 fun j=>(zp l).getD j 0):=(show Blk wr.drew (q+1) 3 _ from h.row).touch m2.touch h.ne.2;refine ⟨(hord.cell i).trans (by rw [zw 19 _ i hi9,ho]),hrow.free o,(hrow.cell o).trans (zw 19 _ o ho19),J ?_⟩;have hset:Touch (fun k=>k=q+1) w2 (w2.setCell ⟨q+1,o,none⟩ (.int .i64 (v:Nat))):=(Touch.refl _ w2).setCell _ _ (.inl rfl);have hne:∀ k,QT p ov2 k→k≠q∧k≠q+1:=by
  intro k hk;rcases hk with hk | hk
  ·exact ⟨fun e=>h.ne.1 (.inl (e.symm.trans hk)),fun e=>h.ne.2 (.inl (e.symm.trans hk))⟩
  ·rcases m2.row k hk with h1 | h1
   ·exact ⟨fun e=>h.ne.1 (.inr (by rw [←e];exact h1)),fun e=>h.ne.2 (.inr (by rw [←e];exact h1))⟩
   ·have:=h.row.lt
    have:wr.drew.heap.size=wr.heap.size:=rfl;omega
 refine ⟨h2.aside hset (fun e=>(hne p (.inl rfl)).2 e) (fun k hk e=>(hne k (.inr hk)).2 e) (fun k hk e=>by have:=h.rne k hk;omega),(h.m.trans (hD.2.trans m2)).aside hset (fun k hk=>by have:=h.lo;omega),?_,?_,h.lo,⟨fun e=>(hne _ e).1 rfl,fun e=>(hne _ e).2 rfl⟩,h.rne⟩
 ·exact hord.touch hset (by omega)
 ·have:=hrow.setCell o (.int .i64 (v:Nat))
  have h5:=KV l v (by omega);rw [←hi,←ho] at h5;rwa [h5] at this
structure Tg (B p:Nat) (rv:Value) (bs:List Nat) (lim nb:Nat) (w:World) (ov:Value) (w6:World) (ov6:Value) (pc:Nat) (own:List Nat) (n0:Nat) (k5:List Nat→Sta→Res Unit) (R:Res Unit)
  (row:List Nat) (items:List (Int × Int)) (v9:Value) (aa:Option Addr) (ac:Nat) (wr:World) (ov':Value) (s':Sta):Prop where
 qs:QS B p rv bs lim nb 0 wr ov' s'
 m:Qv p w ov wr ov'
 m6:Qv p w6 ov6 wr ov'
 ww:w.heap.size≤w6.heap.size
 cod:Cod w6 p ov6 pc own
 ok:Ok own∧own.length=19
 it:wr.ownsRow w6.heap.size 81 2 v9 items.length (Z.icl items)
 al:∀ w2,Touch (QT p ov') wr w2→IS w2 aa (zn row)
 cap:row.length≤ac
 un:Z.un items []=some (zn row)
 few:items.length≤row.length
 top:row.length≤n0
 sm:∀ x∈row,x≤15
 r:R=lk bs own n0 k5 row s'
inductive Tq (B p:Nat) (rv:Value) (bs:List Nat) (lim nb:Nat) (w:World) (ov:Value) (w6:World) (ov6 cv:Value) (own:List Nat) (n0:Nat) (k5:List Nat→Sta→Res Unit) (R:Res Unit) (gm:Nat) (v9 v10:Value) (wr:World):Prop where
 | go (pc:Nat) (row:List Nat) (items:List (Int × Int)) (io aa:Option Addr) (ic ac:Nat) (ov':Value) (s':Sta) (h9:v9=.slice io items.length ic) (h10:v10=.slice aa row.length ac) (hc:cv=.pointer (some ⟨pc,0,none⟩)) (g:n0-row.length+1≤gm)
  (h:Tg B p rv bs lim nb w ov w6 ov6 pc own n0 k5 R row items (.slice io items.length ic) aa ac wr ov' s')
 | bad (er:Nat) (ov':Value) (s':Sta) (q:QS B p rv bs lim nb er wr ov' s') (m:Qv p w ov wr ov') (r:R=.bad er) (h:er≠0)
theorem zbt {own:List Nat}{n0 y v:Nat}{k5:List Nat→Sta→Res Unit}{R:Res Unit}{row:List Nat}{items:List (Int × Int)}{s':Sta}(hy:y≤18) (h0:y<16→v=0) (hv:v<2^xb y) (hrow:row.length≤n0) (hn0:n0≤316) (h15:∀ x∈row,x≤15)
  (hu:Z.un items []=some (zn row)) (hr:R=uo bs own n0 k5 row y v s') :
  (Z.un (items++[((y:Int),(v:Int))]) []=none∧R=.bad 10) ∨
  ∃ row',Z.un (items++[((y:Int),(v:Int))]) []=some (zn row')∧row.length<row'.length∧row'.length≤320∧(∀ x∈row',x≤15)∧((n0<row'.length∧R=.bad 10)∨(row'.length≤n0∧R=lk bs own n0 k5 row' s')):=by
 have hu2:Z.un (items++[((y:Int),(v:Int))]) []=Z.un [((y:Int),(v:Int))] (zn row):=by rw [zkH,hu];rfl
 rw [hu2,zi5 hy h0 hv (by omega)];unfold uo at hr;rw [uq hy h0] at hr ⊢;by_cases hn:y=16∧row=[]
 ·rw [if_pos hn] at hr ⊢
  exact .inl ⟨rfl,hr⟩
 ·rw [if_neg hn] at hr ⊢
  simp only at hr ⊢;have hp:=kN y v row;by_cases hbig:320<(row++qO y v row).length
  ·rw [if_pos hbig]
   rw [if_pos (by omega)] at hr;exact .inl ⟨rfl,hr⟩
  ·rw [if_neg hbig]
   refine .inr ⟨_,rfl,by rw [List.length_append];omega,by omega,fun x hx=>?_,?_⟩
   ·rcases List.mem_append.1 hx with hx | hx
    ·exact h15 x hx
    ·exact uW hy h15 x hx
   ·by_cases hlt:n0<(row++qO y v row).length
    ·rw [if_pos hlt] at hr
     exact .inl ⟨hlt,hr⟩
    ·rw [if_neg hlt] at hr
     exact .inr ⟨by omega,hr⟩
theorem zj2:AT 79 81 (.agg #[.int .i64 0,.int .i64 0]) 2 16:=⟨by kernel_rfl,by kernel_rfl,rfl,by omega⟩
theorem Touch.toZ {S:Nat→Prop}{a b:World}(h:Touch S a b):Touch S a b:=⟨h.os,h.tape,h.output,h.size,h.block⟩
set_option maxHeartbeats 6400000 in
theorem zdt (h:QS B p rv bs lim nb 0 w ov s) :
  Calls prog 30 #[.pointer (some ⟨p,0,none⟩)] w (QTo B p rv bs lim nb w ov uv (.tuple #[]) (uQ bs lim s)):=by
 obtain ⟨R,hR⟩:=exq (uQ bs lim s);rw [←hR];have N1:=J (Jk h 5 (by omega) (.of hR));clear h hR;go_enter func30,ntmps30;go_wp2_with fail
 refine N1.out.mono ?_;rintro e w1 ⟨l,er1,s1,ov1,rfl,hl,h1,m1,g1,_⟩;have N2:=J (Jk h1 5 (by omega) g1);have M1:=J m1;have hl32:l<32:=hl;clear h1 m1 g1 N1 hl;go_wp2_with fail
 refine N2.out.mono ?_;rintro e w2 ⟨d,er2,s2,ov2,rfl,hd,h2,m2,g2,_⟩;have N3:=J (Jk h2 4 (by omega) g2);have M2:=J (M1.out.trans m2);have hd32:d<32:=hd;clear h2 m2 g2 N2 M1 hd;go_wp2_with fail
 refine N3.out.mono ?_;rintro e w3 ⟨c,er3,s3,ov3,rfl,hc,h3,m3,g3,_⟩;have Q3:=J h3;have M3:=J (M2.out.trans m3);have G3:=J g3;have hc16:c<16:=hc;have c4:=h3.cells.c4;clear h3 m3 g3 N3 M2 hc;go_upto_region 3 with fail
 go_cut [34] from 16 (fun s34 wx=>∃ b:Bool,s34=.bool b∧wx=w3∧(b=true↔(er3=0∧(29<l∨29<d))));case first=>
  by_cases h0:er3=0
  ·subst h0
   by_cases h1:29<l
   ·have h1':(29:Int)<l:=by omega
    go_wp2;go_meet
    case rel=>exact ⟨true,rfl,rfl,by simp;omega⟩
   ·have h1':decide ((29:Int)<l)=false:=by simp;omega
    by_cases h2:29<d
    ·have h2':(29:Int)<d:=by omega
     go_wp2;go_meet
     case rel=>exact ⟨true,by simp,by trivial,by simp;omega⟩
    ·have h2':decide ((29:Int)<d)=false:=by simp;omega
     go_wp2;go_meet
     case rel=>exact ⟨false,by simp,by trivial,by simp;omega⟩
  ·have dE:((er3:Int) == 0)=false:=by simp;omega
   go_wp2;go_meet
   case rel=>exact ⟨false,rfl,rfl,by simp;omega⟩
 case rest=>
  obtain ⟨b,rfl,rfl,hb⟩:=hcut;have HB:=J hb;clear hb c4;go_upto_if 34 with fail
  go_cut [] from 16 (fun wx=>∃ (er4:Nat) (s4:Sta),Hid (QS B p rv bs lim nb er4 wx ov3 s4)∧Hid (Qv p w ov wx ov3)∧Hid (Gd R er4 ((rdO bs (4+c) [] s4).bind (yh bs lim l d)))∧Hid (er4=0→l≤29∧d≤29));case first=>
   cases b
   ·go_wp2
    go_meet
    case rel=>
     refine ⟨er3,s3,Q3,M3,J ⟨fun h0=>?_,G3.out.2⟩,J fun h0=>?_⟩
     ·have h1:¬(29<l∨29<d):=fun e=>by have:=HB.out.2 ⟨h0,e⟩;cases this
      have h2:=G3.out.1 h0;unfold XB at h2;rwa [if_neg h1] at h2
     ·have h1:¬(29<l∨29<d):=fun e=>by have:=HB.out.2 ⟨h0,e⟩;cases this
      omega
   ·obtain ⟨h0,h1⟩:=HB.out.1 rfl
    subst h0;have h2:=G3.out.1 rfl;unfold XB at h2;rw [if_pos h1] at h2;have HR:=J h2;clear h1 h2;go_wp2_with fail
    refine (zK Q3.out 10 (by omega)).mono ?_;rintro e w4 ⟨rfl,h4,m4⟩;have Q4:=J h4;have M4:=J (M3.out.trans m4);clear h4 m4;go_wp2;go_meet
    case rel=>exact ⟨10,s3,Q4,M4,J (.bad HR.out (by omega)),J fun h0=>by omega⟩
  case rest=>
   obtain ⟨er4,s4,Q4,M4,G4,L4⟩:=hcut;clear HB Q3 M3 G3;have hcN:c+4≤19:=by omega
   obtain ⟨q,hq⟩:=exq (wc.heap.size);have HTP:=J Q4.out.top;have HRT:=J fun k (hk:rv.ownBlock=some k)=>(Q4.out.row.lt k hk).2
   have HQ:=J hq;have hqw:w.heap.size≤q:=by rw [hq];exact M4.out.touch.size
   clear hq;go_wp2_with (refine zy rfl 40 (.const (.int .i64 19)) (.const (.int .i64 19)) rfl 3 (.int .i64 0) 1 8 19 underlying40 (by kernel_rfl) .i64 .i64 _ _ rfl rfl rfl rfl (by omega) (by omega) ?_;intro W1 hb1 ht1 hs1;rw [←Kn,qL,←HQ.out] at hb1;rw [qL,←HQ.out];have HW1:=J hb1;have HT1:=J ht1;clear hb1 ht1 hs1);have HX0:Hid (Ol B p rv bs lim nb w ov q [] er4 W1 ov3 s4):=J (by
    have ht:=HT1.out;have ho:Blk W1 q 3 (va 19 fun j => .int .i64 (ord.getD j 0:Nat)):=by
     rw [HQ.out];exact (Blk.made wc 3 (va 19 fun j => .int .i64 (ord.getD j 0:Nat))).touch ht (fun h=>h)
    have hb:Below wc.heap.size wc W1:=((((Touch.refl (fun _=>False) wc).alloc _).trans ht)).below (Nat.le_refl _) fun _ h=>h.elim
    obtain ⟨h2,m2⟩:=Q4.out.grow hb;have h3:=HQ.out;exact ⟨h2,M4.out.trans m2,ho,HW1.out,hqw,⟨fun e=>by have:=HTP.out _ e;omega,fun e=>by have:=HTP.out _ e;omega⟩,fun k hk=>by have:=HRT.out k hk;omega⟩)
   have HG0:Hid (Gd R er4 ((rdO bs (c+4-([]:List Nat).length) [] s4).bind (yh bs lim l d))∧∀ x∈([]:List Nat),x<8):=J ⟨by rw [List.length_nil,Nat.sub_zero,Nat.add_comm c 4];exact G4.out,fun x hx=>by cases hx⟩
   have L5:Hid (er4≠0→R=.bad er4):=J G4.out.2;clear HW1 HT1 Q4 M4 G4 HTP HRT;go_loopg [7] (c+4) (fun gm v7 wr=>∃ (l':List Nat) (er5:Nat) (s5:Sta) (ov5:Value),l'.length≤c+4∧c+4-l'.length≤gm∧v7=.int .i64 (l'.length:Nat)∧Hid (Ol B p rv bs lim nb w ov q l' er5 wr ov5 s5)∧Hid (Gd R er5 ((rdO bs (c+4-l'.length) l' s5).bind (yh bs lim l d))∧∀ x∈l',x<8)∧Hid (er5=0→er4=0))
   case atStart=>exact ⟨[],er4,s4,ov3,Nat.zero_le _,by simp,rfl,HX0,HG0,J fun h=>h⟩
   case round=>
    clear HX0 HG0;obtain ⟨l',er5,s5,ov5,hl',hgm,rfl,HX,HG,HE⟩:=hrel;obtain ⟨i,hi⟩:=exq (l'.length);by_cases hlt:l'.length<c+4
    ·have hi19:i<19:=by omega
     obtain ⟨o,ho⟩:=exq (ord.getD i 0);have ho19:o<19:=by rw [ho];exact zbw i hi19
     have t0:=(HX.out.order.cell i).trans (zw 19 _ i hi19);rw [←ho] at t0;have hg:Gd R er5 ((rdN bs 3 s5).bind fun v s'=>(rdO bs (c+4-(l'++[v]).length) (l'++[v]) s').bind (yh bs lim l d)):=by
      have:=HG.out.1;rw [show c+4-l'.length=(c+4-l'.length-1)+1 by omega,rdO,Res.bind_assoc] at this;simp only [List.length_append,List.length_singleton];rw [show c+4-(l'.length+1)=c+4-l'.length-1 by omega];exact this
     have HN:=J (Jk HX.out.qs.drew.1 3 (by omega) hg);have AFT:Hid (∀ v er2 w2 ov2 s2,QS B p rv bs lim nb er2 w2 ov2 s2→Qv p wr.drew ov5 w2 ov2→_):=J fun v er2 w2 ov2 s2 h2 m2=>zc6 (v:=v) HX.out h2 m2 hi hi19 ho
     have H8:=J HG.out.2;have HI:=J hi;have hi0:(0:Int)≤i:=by omega
     have hi9:(i:Int)<19:=by omega
     have hin:(i:Int)<c+4:=by omega
     have ho9:(o:Int)<19:=by omega
     have ho0:(0:Int)≤o:=by omega
     clear hg HG HX ho;rw [←hi] at hgm ⊢;clear hi hlt hl';go_wp2;go_region_with (go_at_call 25;(refine HN.out.mono ?_);rintro e w2 ⟨v,er2,s2,ov2,rfl,hv,h2,m2,g2,e2⟩;obtain ⟨k1,k2,k3,k4⟩:=AFT.out v er2 w2 ov2 s2 h2 m2;have C4:=J k4;have G2:=J g2;have HV:=J hv;have HE2:=J e2;clear h2 m2 k4 g2 hv e2)
     all_goals
      go_wp2;go_roundg (c+4-(i+1))
      case measure=>omega
      case rel=>
       refine ⟨l'++[v],er2,s2,ov2,?_,?_,?_,C4.out,J ⟨G2.out,fun x hx=>?_⟩,J fun h=>HE.out (HE2.out h)⟩
       ·rw [List.length_append,List.length_singleton,←HI.out];omega
       ·rw [List.length_append,List.length_singleton,←HI.out];exact Nat.le_refl _
       ·rw [List.length_append,List.length_singleton,←HI.out];go_num
       ·rcases List.mem_append.1 hx with hx | hx
        ·exact H8.out x hx
        ·rw [List.mem_singleton.1 hx];exact HV.out
    ·have hi4:i=c+4:=by omega
     have hl5:l'.length=c+4:=by omega
     have hG:=HG.out.1;rw [hl5,Nat.sub_self,rdO,Res.bind_ok] at hG;have G5:=J hG;have H8:=J HG.out.2;have c4:=HX.out.qs.cells.c4;rw [hl5];clear hG HG hi hi4 hl5 hlt hl' hgm;have hcc:¬((c+4:Nat):Int)<(c:Int)+4:=by omega
     by_cases h0:er5=0
     ·subst h0
      have hR:=J G5.out.fine;have hld:=L4.out (HE.out rfl);have HC:Hid (Calls prog 45 #[.pointer (some ⟨p,0,none⟩),.slice (some ⟨q+1,0,none⟩) 19 19,.bool true,.bool false] wr (Jo B p rv bs lim nb 0 wr ov5 s5 (zp l') true false)):=J (by
       have:=kU HX.out.qs (some ⟨q+1,0,none⟩) 19 (zp l') (zfg HX.out.row (zn (zp l')) (by rw [zH,qk]) fun j _=>Jc _ _) (by rw [qk];omega) (ko H8.out) true false
       rwa [qk] at this)
      have HTP:=J HX.out.qs.top;have HM5:=J HX.out.m;have HQ5:=J HX.out.qs;have hlw:=HX.out.lo;have hln:=HX.out.row.lt;clear HX G5 HE L4 L5 hcc;go_wp2_with fail
      refine HC.out.mono ?_;rintro e w6 hcode;obtain ⟨cv,rfl,HS⟩:∃ cv,e=.returned cv∧Hid (∀ n0 k5,n0=258+l+d→k5=J2 bs lim l→∀ v9 v10 aa ac W,v9=.slice aa 0 ac→∀ bo bc,v10=.slice bo 0 bc→W.ownsRow w6.heap.size 81 2 v9 0 []→Below w6.heap.size w6 W→Tq B p rv bs lim nb w ov w6 ov5 cv (zp l') n0 k5 R (n0+1) v9 v10 W):=by
       rcases hcode with ⟨hck,pc,rfl,hcd,hq6,hb6⟩ | ⟨hck,rfl,hq6,hm6⟩
       ·refine ⟨_,rfl,J fun n0 k5 hn0 hk5 v9 v10 aa ac W h9 bo bc h10 hown hbel=>?_⟩
        have hroom:=zcT.1 hck;obtain ⟨h7,m7⟩:=hq6.grow hbel;have m6:=(HQ5.out.grow hb6).2;subst h9 h10;refine .go pc [] [] aa bo ac bc ov5 s5 rfl rfl rfl (by simp) ⟨h7,(HM5.out.trans m6).trans m7,m7,(HM5.out.trans m6).touch.size,hcd,⟨⟨by rw [qk];omega,ko H8.out,hck.1⟩,qk l'⟩,hown,fun w2 _ => .inl rfl,Nat.zero_le _,rfl,Nat.le_refl _,Nat.zero_le _,fun x hx=>(by cases hx),?_⟩
        rw [hR.out];unfold yh lk;rw [if_neg (by simpa using hroom),if_neg (by simp;omega),hn0,hk5];rfl
       ·refine ⟨_,rfl,J fun n0 k5 hn0 hk5 v9 v10 aa ac W h9 bo bc h10 hown hbel=>?_⟩
        obtain ⟨h7,m7⟩:=hq6.grow hbel;refine .bad 10 ov5 s5 h7 ((HM5.out.trans hm6).trans m7) ?_ (by omega);rw [hR.out];unfold yh;rw [if_pos (fun e=>hck (zcT.2 e))]
      obtain ⟨n0,hn0⟩:=exq (258+l+d);obtain ⟨k5,hk5⟩:=exq (J2 bs lim l);have hn0b:258≤n0∧n0≤316:=by omega
      have en0:(l:Int)+d+258=n0:=by omega
      have HK5:=J hk5;have HN0:=J hn0;have HS1:=J (HS.out n0 k5 hn0 hk5);clear hcode HC HTP HQ5 HM5 H8 hR hk5 hn0 HS hlw hln c4;go_wp2;have HT0:Hid (Tq B p rv bs lim nb w ov w6 ov5 cv (zp l') n0 k5 R (n0+1) (.slice (some ⟨w6.heap.size,0,none⟩) 0 0) (.slice (some ⟨w6.heap.size+1,0,none⟩) 0 0) ((w6.alloc (.cells #[] 81)).alloc (.cells #[] 3))):=
       J (HS1.out _ _ _ _ _ rfl _ _ rfl (World.ownsRow.alloc (w:=w6.alloc (.cells #[] 81)) (yP w6 81 2) _) (((Below.refl _ w6).alloc (Nat.le_refl _) _).alloc (by rw [qL];omega) _))
      clear HS1;go_loopg [9,10] (n0+1) (fun gm v9 v10 wr=>Hid (Tq B p rv bs lim nb w ov w6 ov5 cv (zp l') n0 k5 R gm v9 v10 wr))
      case atStart=>exact HT0
      case round=>
       clear HT0;cases hrel.out with
       | bad er ov7 s7 q7 m7 r7 her=>
        have c4:=q7.cells.c4;have dE:((er:Int) == 0)=false:=by simp;omega
        have dF:((er:Int) != 0)=true:=by simp;omega
        have HQ7:=J q7;have HM7:=J m7;have HR7:=J r7;clear q7 m7 r7 her hrel;go_wp2;go_end0;exact QTo.bad HR7.out HQ7.out HM7.out
       | go pc row items io aa ic ac ov7 s7 h9 h10 hc7 g7 h7=>
        have H7:=J h7;subst h9 h10 hc7;by_cases hfull:row.length=n0
        ·have hR:=H7.out.r
         unfold lk at hR;rw [if_pos hfull,HK5.out] at hR;unfold J2 at hR;have hI:=H7.out.al wr (Touch.refl _ _);obtain ⟨b,off,rfl,q0⟩:=hI.at (k:=256) (by rw [zH];omega);rw [Jc] at q0;obtain ⟨x,hx⟩:=exq (row.getD 256 0);obtain ⟨A,hA⟩:=exq (257+l);rw [←hx,←hA] at hR;rw [←hx] at q0;have hx16:x≤15:=by
          rw [hx,List.getD_eq_getElem?_getD,List.getElem?_eq_getElem (by omega)];exact H7.out.sm _ (List.getElem_mem _)
         have c4:=H7.out.qs.cells.c4;have hcapN:n0≤ac:=by rw [←hfull];exact H7.out.cap
         have HR7:=J hR;have HIS:=J hI;have HFULL:=J hfull;have hnn:¬(n0:Int)<n0:=by omega
         rw [hfull];clear hR hI hx h7 hrel g7 hfull;by_cases hx0:x=0
         ·subst hx0
          have HR8:Hid (R=.bad 10):=J (by have:=HR7.out;rwa [if_pos rfl] at this);clear HR7 hA;go_wp2_with fail
          refine (zK H7.out.qs 10 (by omega)).mono ?_;rintro e w8 ⟨rfl,h8,m8⟩;have H8:=J h8;have M8:=J (H7.out.m.trans m8);clear h8 m8 q0 c4;go_wp2;go_end0;exact QTo.bad HR8.out H8.out M8.out
         ·have HR8:Hid (R=if fits row A then xF bs lim (row.take A) (row.drop A) s7 else .bad 10):=J (by have:=HR7.out;rwa [if_neg hx0] at this)
          have d1:((x:Int) == 0)=false:=by simp;omega
          obtain ⟨D,hD⟩:=exq (n0-A);have eA:(l:Int)+257=A:=by omega
          have hND:n0-A=D:=by omega
          have hAN:A<n0:=by have:=HN0.out;omega
          have hAN':(A:Int)≤n0:=by omega
          have hc7:(n0:Int)≤ac:=by omega
          have hAc:(A:Int)≤ac:=by omega
          have hne:¬(ac=A):=by omega
          obtain ⟨fl,hfl⟩:=exq (row.take A);obtain ⟨ol,hol⟩:=exq (row.drop A);have hl1:fl.length=A:=by rw [hfl,List.length_take,HFULL.out];omega
          have hl2:ol.length=D:=by rw [hol,List.length_drop,HFULL.out];omega
          have h15:(∀ z∈fl,z≤15)∧∀ z∈ol,z≤15:=⟨fun z hz=>H7.out.sm z (by rw [hfl] at hz;exact List.mem_of_mem_take hz),fun z hz=>H7.out.sm z (by rw [hol] at hz;exact List.mem_of_mem_drop hz)⟩
          have HF:=J (zgb (row:=row) (l:=A) H7.out.sm);have HIO:Hid (∀ w2,Touch (QT p ov7) wr w2→IS w2 (some ⟨b,off+A,none⟩) (zn ol)):=J fun w2 ht=>by rw [hol,←zcq];exact zb8 (H7.out.al w2 ht) A
          have HC1:Hid (Calls prog 45 #[.pointer (some ⟨p,0,none⟩),.slice (some ⟨b,off,none⟩) A ac,.bool false,.bool false] wr (Jo B p rv bs lim nb 0 wr ov7 s7 fl false false)):=J (by
           have:=kU H7.out.qs (some ⟨b,off,none⟩) ac fl (by rw [hfl,←zcy];exact zcI HIS.out A) (by omega) h15.1 false false;rwa [hl1] at this)
          rw [←hfl,←hol] at HF;have HSY:Hid (cok fl false false→cok ol false true→R=xF bs lim fl ol s7):=J fun k1 k2=>by rw [HR8.out,if_pos (HF.out.2 ⟨k1,k2⟩),hfl,hol]
          have HSN:Hid (¬(cok fl false false∧cok ol false true)→R=.bad 10):=J fun k=>by rw [HR8.out,if_neg (fun e=>k (HF.out.1 e))]
          have HL:=J (And.intro (And.intro hl1 hl2) h15);have hAb:A≤316∧D≤316:=by omega
          have HQ7:=J H7.out.qs;have HM7:=J H7.out.m;clear HR7 HR8 HF HIS hx0 hfl hol hl1 hl2 h15 H7 hA hD;go_wp2_with fail
          refine HC1.out.mono ?_;rintro e w8 h8;rcases h8 with ⟨k1,p1,rfl,cd1,q8,b8⟩ | ⟨k1,rfl,q8,m8'⟩
          ·have m8':Qv p wr ov7 w8 ov7:=⟨(Touch.of_below b8:Touch (fun _=>False) wr w8).mono fun k hk=>hk.elim,fun _ x => .inl x⟩
           have HC2:Hid (Calls prog 45 #[.pointer (some ⟨p,0,none⟩),.slice (some ⟨b,off+A,none⟩) D (ac-A),.bool false,.bool true] w8 (Jo B p rv bs lim nb 0 w8 ov7 s7 ol false true)):=J (by
            have:=kU q8 (some ⟨b,off+A,none⟩) (ac-A) ol (HIO.out w8 m8'.touch) (by have:=HL.out.1.2;omega) HL.out.2.2 false true;rwa [HL.out.1.2] at this)
           have M8:=J (HM7.out.trans m8');have K1:=J k1;have CD1:=J cd1;clear cd1;clear k1 q8 m8' HC1 HIO b8 c4 q0;go_wp2_with fail
           refine HC2.out.mono ?_;rintro e w9 h9;rcases h9 with ⟨k2,p2,rfl,cd2,q9,b9⟩ | ⟨k2,rfl,q9,m9'⟩
           ·have m9':Qv p w8 ov7 w9 ov7:=⟨(Touch.of_below b9:Touch (fun _=>False) w8 w9).mono fun k hk=>hk.elim,fun _ x => .inl x⟩
            have H9:=J q9;have HRS:=J (HSY.out K1.out k2);have M9:=J (M8.out.trans m9');have CE1:=J (CD1.out.on m9');have CE2:=J cd2;have HY:=J (y4 H9.out CE1.out CE2.out ⟨by have:=HL.out.1.1;omega,HL.out.2.1,K1.out.1⟩ ⟨by have:=HL.out.1.2;omega,HL.out.2.2,k2.1⟩);rw [←HRS.out] at HY;clear q9 m9' b9 cd2 k2;go_wp2_with fail
            refine HY.out.mono ?_;rintro e w10 h10;cases hRR:R with
            | bad er=>
             rw [hRR] at h10;obtain ⟨rfl,ov10,s10,h10,m10⟩:=h10;have H10:=J h10;have M10:=J (M9.out.trans m10);have HRR:=J hRR;clear h10 m10 hRR;go_wp2;go_end0;exact QTo.bad HRR.out H10.out M10.out
            | ok u s10=>
             rw [hRR] at h10;obtain ⟨rfl,ov10,h10,m10⟩:=h10;have H10:=J h10;have M10:=J (M9.out.trans m10);have HRR:=J hRR;clear h10 m10 hRR;go_wp2;go_end0;exact QTo.ok (enc:=uv) HRR.out H10.out M10.out
           ·have H9:=J q9
            have HRB:Hid (R=.bad 10):=J (HSN.out fun e=>k2 e.2);have M9':=J (M8.out.trans m9');clear q9 m9' k2;go_wp2;go_end0;exact QTo.bad HRB.out H9.out M9'.out
          ·have HC2:Hid (Calls prog 45 #[.pointer (some ⟨p,0,none⟩),.slice (some ⟨b,off+A,none⟩) D (ac-A),.bool false,.bool true] w8 (Jo B p rv bs lim nb (sf 0 10) w8 ov7 s7 ol false true)):=J (by
            have:=kU q8 (some ⟨b,off+A,none⟩) (ac-A) ol (HIO.out w8 m8'.touch) (by have:=HL.out.1.2;omega) HL.out.2.2 false true;rwa [HL.out.1.2] at this)
           have M8:=J (HM7.out.trans m8');have K1:=J k1;clear k1 q8 m8' HC1 HIO c4 q0;go_wp2_with fail
           refine HC2.out.mono ?_;rintro e w9 h9;rcases h9 with ⟨k2,p2,rfl,cd2,q9,b9⟩ | ⟨k2,rfl,q9,m9'⟩
           ·have m9':Qv p w8 ov7 w9 ov7:=⟨(Touch.of_below b9:Touch (fun _=>False) w8 w9).mono fun k hk=>hk.elim,fun _ x => .inl x⟩
            have H9:=J q9;have HRB:Hid (R=.bad 10):=J (HSN.out fun e=>K1.out e.1);have M9':=J (M8.out.trans m9');clear q9 m9' b9 cd2 k2;go_wp2;go_end0;exact QTo.bad HRB.out H9.out M9'.out
           ·have H9:=J q9
            have HRB:Hid (R=.bad 10):=J (HSN.out fun e=>K1.out e.1);have M9':=J (M8.out.trans m9');clear q9 m9' k2;go_wp2;go_end0;exact QTo.bad HRB.out H9.out M9'.out
        ·have hR:=H7.out.r
         rw [zmh hfull H7.out.qs.in_] at hR;have HS:=J (zli H7.out.qs (H7.out.cod.on H7.out.m6) H7.out.ok.1 hR);have c4:=H7.out.qs.cells.c4;obtain ⟨rl,hrl⟩:=exq (row.length);have hrn:rl<n0:=by have:=H7.out.top;omega
         have hrn':(rl:Int)<n0:=by omega
         have HRL:=J hrl;obtain ⟨il,hil⟩:=exq (items.length);have HIL:=J hil;have hilr:il≤rl:=by have:=H7.out.few;omega
         have HIT:Hid (wr.ownsRow w6.heap.size 81 2 (.slice io il ic) il (Z.icl items)):=J (by rw [hil];exact H7.out.it);rw [←hrl] at g7 ⊢;rw [←hil];clear hR h7 hrel hfull hrl hil;go_wp2_with fail
         refine HS.out.mono ?_;rintro e w8 ⟨y,er8,s8,ov8,rfl,hy0,hy18,h8,m8,g8⟩;have hy18':y≤18:=by rw [H7.out.ok.2] at hy18;exact hy18
         have Q8:=J h8;have M8:=J m8;have G8:=J g8;have IT8:=J (H7.out.qs.keepItems HIT.out m8.touch);obtain ⟨bx,hbx⟩:=exq (w8.heap.size);have HBX:=J hbx;clear hy18 h8 m8 g8 HS HIT c4;go_upto_if 91 with fail
         rw [←hbx];clear hbx;go_cut [] from 67 to 128 (fun wx=>∃ (v er9:Nat) (s9:Sta) (ov9:Value),Hid (QS B p rv bs lim nb er9 wx ov9 s9)∧Hid (Qv p w8 ov8 wx ov9)∧Hid (wx.ownsRow w6.heap.size 81 2 (.slice io il ic) il (Z.icl items))∧Hid (Blk wx bx 81 #[.int .i64 (y:Nat),.int .i64 (v:Nat)])∧Hid (Gd R er9 (uo bs (zp l') n0 k5 row y v s9))∧(y<16→v=0)∧v<2^xb y);case first=>
          by_cases hy16:y<16
          ·have hy16':(y:Int)<16:=by omega
           have hx:Below w8.heap.size w8 (w8.alloc (.cells #[.int .i64 (y:Nat),.int .i64 0] 81)):=(Below.refl _ w8).alloc (Nat.le_refl _) _;have hq:=Q8.out.grow hx;have HX:Hid (QS B p rv bs lim nb er8 (w8.alloc (.cells #[.int .i64 (y:Nat),.int .i64 0] 81)) ov8 s8∧Qv p w8 ov8 (w8.alloc (.cells #[.int .i64 (y:Nat),.int .i64 0] 81)) ov8):=J hq;have HX2:Hid ((w8.alloc (.cells #[.int .i64 (y:Nat),.int .i64 0] 81)).ownsRow w6.heap.size 81 2 (.slice io il ic) il (Z.icl items)):=J (World.ownsRow.alloc (w:=w8) IT8.out _);have HX3:Hid (Blk (w8.alloc (.cells #[.int .i64 (y:Nat),.int .i64 0] 81)) bx 81 #[.int .i64 (y:Nat),.int .i64 0]):=J (by rw [HBX.out];exact Blk.made _ _ _);have HX4:Hid (Gd R er8 (uo bs (zp l') n0 k5 row y 0 s8)):=J (by have:=G8.out;rwa [if_neg (by omega)] at this);clear hx hq;go_wp2;go_meet
           case rel=>exact ⟨0,er8,s8,ov8,J HX.out.1,J HX.out.2,HX2,HX3,HX4,fun _=>rfl,Nat.two_pow_pos _⟩
          ·have h80:er8=0:=Decidable.byContradiction fun e=>by have:=hy0 e;omega
           subst h80;have HNB:Hid (∀ n W,Below w8.heap.size w8 W→n=xb y→Calls prog 25 #[.pointer (some ⟨p,0,none⟩),.int .i64 (n:Nat)] W _):=J fun n W hb hn=>Jk (k:=fun v s2=>uo bs (zp l') n0 k5 row y v s2) (R:=R) (Q8.out.grow hb).1 n (by rw [hn];unfold xb;split;omega;split;omega;split <;> omega) (by have:=G8.out;rw [if_pos ⟨by omega,hy18'⟩] at this;rw [hn];exact this)
           have HAF:Hid (∀ W v er9 w9 ov9 s9,W=((w8.alloc (.cells #[.int .i64 (y:Nat),.int .i64 0] 81)).alloc (.cells #[.int .i64 2,.int .i64 3,.int .i64 7] 3))→QS B p rv bs lim nb er9 w9 ov9 s9→Qv p W ov8 w9 ov9→
             w9.cell? ⟨bx,0,none⟩=some (.int .i64 (y:Nat))∧w9.cell? ⟨bx,1,none⟩=some (.int .i64 0)∧w9.frozen? ⟨bx,1,none⟩=false∧
             Hid (QS B p rv bs lim nb er9 (w9.setCell ⟨bx,1,none⟩ (.int .i64 (v:Nat))) ov9 s9)∧Hid (Qv p w8 ov8 (w9.setCell ⟨bx,1,none⟩ (.int .i64 (v:Nat))) ov9)∧Hid ((w9.setCell ⟨bx,1,none⟩ (.int .i64 (v:Nat))).ownsRow w6.heap.size 81 2 (.slice io il ic) il (Z.icl items))∧Hid (Blk (w9.setCell ⟨bx,1,none⟩ (.int .i64 (v:Nat))) bx 81 #[.int .i64 (y:Nat),.int .i64 (v:Nat)])):=J fun W v er9 w9 ov9 s9 hW h9 m9=>by
            have hb1:Below w8.heap.size w8 W:=by rw [hW];exact ((Below.refl _ w8).alloc (Nat.le_refl _) _).alloc (by rw [qL];omega) _
            have hB0:Blk W bx 81 #[.int .i64 (y:Nat),.int .i64 0]:=by
             rw [hW,HBX.out];exact (Blk.made w8 81 #[.int .i64 (y:Nat),.int .i64 0]).below ((Below.refl _ _).alloc (Nat.le_refl _) _)
            have hq1:=Q8.out.grow hb1;have hnt:¬QT p ov8 bx:=fun e=>by have:=Q8.out.top bx e;have:=HBX.out;omega
            have hB9:=hB0.touch m9.touch hnt;have ho:=h9.other hB9 (by decide) (by decide);have hset:Touch (fun k=>k=bx) w9 (w9.setCell ⟨bx,1,none⟩ (.int .i64 (v:Nat))):=(Touch.refl _ w9).setCell _ _ (.inl rfl);have hI1:W.ownsRow w6.heap.size 81 2 (.slice io il ic) il (Z.icl items):=ownsRow_below IT8.out hb1;have hI9:=hq1.1.keepItems hI1 m9.touch;refine ⟨(hB9.cell 0).trans rfl,(hB9.cell 1).trans rfl,hB9.free 1,J (h9.aside hset (fun e=>ho.1 e.symm) (fun k hk e=>ho.2.1 k hk e) (fun k hk e=>ho.2.2 k hk e)),J ((hq1.2.trans m9).aside hset fun k hk=>by have:=HBX.out;omega),J (zd hI9 hset fun k hk e=>?_),J (hB9.setCell 1 _)⟩
            have:=(IT8.out.lt k hk).2;have:=HBX.out;omega
           have h3:y=16∨y=17∨y=18:=by omega
           have hW0:Below w8.heap.size w8 ((w8.alloc (.cells #[.int .i64 (y:Nat),.int .i64 0] 81)).alloc (.cells #[.int .i64 2,.int .i64 3,.int .i64 7] 3)):=((Below.refl _ w8).alloc (Nat.le_refl _) _).alloc (by rw [qL];omega) _;have HW0:=J hW0;clear hy16 hy0 hW0;have hbx1:=HBX.out;clear HBX;subst hbx1;rcases h3 with rfl | rfl | rfl
           ·go_wp2_with fail
            refine (HNB.out 2 _ HW0.out rfl).mono ?_;rintro e w9 ⟨v,er9,s9,ov9,rfl,hv,h9,m9,g9,_⟩;obtain ⟨x0,x1,f1,X1,X2,X3,X4⟩:=HAF.out _ v er9 w9 ov9 s9 rfl h9 m9;have G9:=J g9;clear h9 m9 g9 HAF HNB;go_wp2;go_meet
            case rel=>exact ⟨v,er9,s9,ov9,X1,X2,X3,X4,G9,fun e=>by omega,hv⟩
           ·go_wp2_with fail
            refine (HNB.out 3 _ HW0.out rfl).mono ?_;rintro e w9 ⟨v,er9,s9,ov9,rfl,hv,h9,m9,g9,_⟩;obtain ⟨x0,x1,f1,X1,X2,X3,X4⟩:=HAF.out _ v er9 w9 ov9 s9 rfl h9 m9;have G9:=J g9;clear h9 m9 g9 HAF HNB;go_wp2;go_meet
            case rel=>exact ⟨v,er9,s9,ov9,X1,X2,X3,X4,G9,fun e=>by omega,hv⟩
           ·go_wp2_with fail
            refine (HNB.out 7 _ HW0.out rfl).mono ?_;rintro e w9 ⟨v,er9,s9,ov9,rfl,hv,h9,m9,g9,_⟩;obtain ⟨x0,x1,f1,X1,X2,X3,X4⟩:=HAF.out _ v er9 w9 ov9 s9 rfl h9 m9;have G9:=J g9;clear h9 m9 g9 HAF HNB;go_wp2;go_meet
            case rel=>exact ⟨v,er9,s9,ov9,X1,X2,X3,X4,G9,fun e=>by omega,hv⟩
         case rest=>
          obtain ⟨v,er9,s9,ov9,Q9,M9,IT9,X9,G9,hv0,hvx⟩:=hcut;have x0:=(X9.out.cell 0).trans (show _=some (.int .i64 (y:Nat)) from rfl);have x1:=(X9.out.cell 1).trans (show _=some (.int .i64 (v:Nat)) from rfl);have hsz:w6.heap.size≤wc.heap.size:=Nat.le_trans (Nat.le_trans H7.out.m6.touch.size M8.out.touch.size) M9.out.touch.size;have HV:=J (And.intro hv0 hvx);have hvb:v<200:=by
           refine Nat.lt_of_lt_of_le hvx ?_;unfold xb;split
           ·decide
           ·split
            ·decide
            ·split <;> decide
          have hilb:il≤316:=by omega
          clear hv0 hvx Q8 G8 IT8 HBX hy0;have AFA:Hid (∀ ao2 c2 w9,Apg (wc.alloc (.cells #[.int .i64 (y:Nat),.int .i64 (v:Nat)] 81)) w6.heap.size 81 2 (.slice io il ic) (il+1) (Z.icl items++[.int .i64 (y:Nat),.int .i64 (v:Nat)]) (.slice ao2 (il+1) c2) w9→
            w9.cell? ⟨p,4,none⟩=some (.int .i64 (er9:Nat))∧Hid (QS B p rv bs lim nb er9 w9 ov9 s9)∧Hid (Qv p w ov w9 ov9)∧Hid (Qv p w6 ov5 w9 ov9)∧Hid (w9.ownsRow w6.heap.size 81 2 (.slice ao2 (il+1) c2) (il+1) (Z.icl (items++[((y:Int),(v:Int))])))):=J fun ao2 c2 w9 hA=>by
           have h1:=Q9.out.grow ((Below.refl _ wc).alloc (Nat.le_refl _) (.cells #[.int .i64 (y:Nat),.int .i64 (v:Nat)] 81));have own1:(wc.alloc (.cells #[.int .i64 (y:Nat),.int .i64 (v:Nat)] 81)).ownsRow w6.heap.size 81 2 (.slice io il ic) il (Z.icl items):=World.ownsRow.alloc (w:=wc) IT9.out _;have hq:=h1.1.rowItems own1 hA.touch;have hge:∀ k,(Value.slice io il ic).ownBlock=some k→w6.heap.size≤k:=fun k hk=>(own1.lt k hk).1
           refine ⟨hq.cells.c4,J hq,J ((((H7.out.m.trans M8.out).trans M9.out).trans h1.2).aside hA.touch fun k hk=>Nat.le_trans H7.out.ww (hge k hk)),J ((((H7.out.m6.trans M8.out).trans M9.out).trans h1.2).aside hA.touch hge),J ?_⟩;have:=hA.own;rw [←Z.Xp];exact this
          by_cases h90:er9=0
          ·subst h90
           have HNC:=J (zbt hy18' HV.out.1 HV.out.2 H7.out.top hn0b.2 H7.out.sm H7.out.un G9.out.fine);have HPC:=J (And.intro (And.intro H7.out.ww H7.out.cod) (And.intro H7.out.ok H7.out.few));clear G9 Q9 M9 M8 H7 X9;go_wp2_with (refine ze zj2 rfl (.tmp 101) (.tmp 103) rfl w6.heap.size (.slice io il ic) (.slice (some ⟨wc.heap.size,0,none⟩) 1 1) il 1 (Z.icl items) [.int .i64 (y:Nat),.int .i64 (v:Nat)] rfl rfl (World.ownsRow.alloc (w:=wc) IT9.out _) (jI wc 81 _ _) rfl (ua ((y:Int),(v:Int))) (Nat.le_trans hsz (by simp)) (by omega) (by omega) ?_;intro ao2 c2 w9 hA;obtain ⟨c4,Q10,M10,N10,I10⟩:=AFA.out ao2 c2 w9 hA;clear hA);have hu0:=Z.XN ao2 c2 (items++[((y:Int),(v:Int))]) w9 (Z.uH I10.out (by rw [List.length_append,List.length_singleton,←HIL.out])) (by rw [List.length_append,List.length_singleton,←HIL.out];omega);rw [List.length_append,List.length_singleton,←HIL.out] at hu0;refine hu0.mono ?_;clear hu0;rintro e w10 ⟨hb10,hnone,hsome⟩;have hq10:=Q10.out.grow hb10;have c4':=hq10.1.cells.c4;have Q11:=J hq10.1;have M11:=J (M10.out.trans hq10.2);have N11:=J (N10.out.trans hq10.2);have I11:=J (ownsRow_below I10.out hb10);have HTP:=J Q10.out.top;clear hq10 AFA IT9 x0 x1 c4;rcases HNC.out with ⟨hu,hR⟩ | ⟨row',hu,hlt',h320,h15',hor⟩
           ·obtain rfl:=hnone hu
            have HR:=J hR;clear hnone hsome hu hR HNC hb10;go_wp2_with fail
            refine (zK Q11.out 10 (by omega)).mono ?_;rintro e w11 ⟨rfl,h11,m11⟩;have Q12:=J h11;have M12:=J (M11.out.trans m11);clear h11 m11;go_wp2;go_end0;exact QTo.bad HR.out Q12.out M12.out
           ·obtain ⟨ao3,c3,rfl,hIS,hcap⟩:=hsome _ hu
            rw [zH] at hcap ⊢;obtain ⟨rn,hrnE⟩:=exq (row'.length);rw [←hrnE] at hcap ⊢;have hrn3:rn≤320:=by omega
            rcases hor with ⟨hbig,hR⟩ | ⟨hle,hR⟩
            ·have HR:=J hR
             have d1:(n0:Int)<rn:=by omega
             clear hnone hsome hu hR HNC hb10 hIS hrnE hlt' h320 h15' hbig;go_wp2_with fail
             refine (zK Q11.out 10 (by omega)).mono ?_;rintro e w11 ⟨rfl,h11,m11⟩;have Q12:=J h11;have M12:=J (M11.out.trans m11);clear h11 m11;go_wp2;go_end0;exact QTo.bad HR.out Q12.out M12.out
            ·have d1:decide ((n0:Int)<rn)=false:=by simp;omega
             have d2:decide (n0<rn)=false:=by simp;omega
             have hgo:n0-rn+1<gk:=by have:=HRL.out;omega
             have hfew:il+1≤rn:=by have:=HRL.out;omega
             have hrn0:rn≤n0:=by omega
             have HRR:=J hR;have HU:=J hu;have H15:=J h15';have HIS:=J hIS;have HRN:=J hrnE;clear hnone hsome hu hR HNC hb10 hIS hrnE hlt' h320 h15' hle;go_wp2;go_roundg (n0-rn+1)
             case measure=>omega
             case rel=>
              refine J (.go pc row' (items++[((y:Int),(v:Int))]) ao2 ao3 c2 c3 ov9 s9 ?_ ?_ rfl ?_ ⟨Q11.out,M11.out,N11.out,HPC.out.1.1,HPC.out.1.2,HPC.out.2.1,?_,fun w2 ht=>?_,?_,HU.out,?_,?_,H15.out,HRR.out⟩)
              ·rw [List.length_append,List.length_singleton,←HIL.out]
              ·rw [←HRN.out]
              ·rw [←HRN.out];exact Nat.le_refl _
              ·rw [List.length_append,List.length_singleton,←HIL.out];exact I11.out
              ·exact HIS.out w2 (ht.mono fun k hk=>HTP.out k hk).toZ
              ·rw [←HRN.out];exact hcap
              ·rw [List.length_append,List.length_singleton,←HIL.out,←HRN.out];exact hfew
              ·rw [←HRN.out];exact hrn0
          ·have HR:=J (G9.out.2 h90)
           have dE:((er9:Int) != 0)=true:=by simp;omega
           clear G9 Q9 M9 M8 H7 X9 h90;go_wp2_with (refine ze zj2 rfl (.tmp 101) (.tmp 103) rfl w6.heap.size (.slice io il ic) (.slice (some ⟨wc.heap.size,0,none⟩) 1 1) il 1 (Z.icl items) [.int .i64 (y:Nat),.int .i64 (v:Nat)] rfl rfl (World.ownsRow.alloc (w:=wc) IT9.out _) (jI wc 81 _ _) rfl (ua ((y:Int),(v:Int))) (Nat.le_trans hsz (by simp)) (by omega) (by omega) ?_;intro ao2 c2 w9 hA;obtain ⟨c4,Q10,M10,N10,I10⟩:=AFA.out ao2 c2 w9 hA;clear hA);go_end0;exact QTo.bad HR.out Q10.out M10.out
     ·have dE:((er5:Int) != 0)=true:=by simp;omega
      have HR:=J (G5.out.2 h0);clear h0 G5;go_wp2;go_end0;exact QTo.bad HR.out HX.out.qs HX.out.m
end
section
variable {α β : Type}{bs:List Nat}{lim:Nat}
def Kp (f:Sta→Res α):Prop:=∀ s a s',f s=.ok a s'→s'.blocks=s.blocks
theorem Kp.bind {f:Sta→Res α}{k : α → Sta→Res β}(h:Kp f) (hk:∀ a,Kp (k a)):Kp fun s=>(f s).bind k:=by
 intro s b t hb;obtain ⟨a,s',h1,h2⟩:=Res.bind_is hb;rw [hk a s' b t h2,h s a s' h1]
theorem Kp.run {L:Nat}{f : α → Sta→Res (Bool × α)}(h:∀ a,Kp (f a)) (a : α):Kp (run L f a):=by
 have key:∀ n a,Kp (iter f n a):=by
  intro n;induction n with
  | zero=>intro a s b t hb;cases hb
  | succ n ih=>
   intro a s b t hb;unfold iter at hb;obtain ⟨x,s',h1,h2⟩:=Res.bind_is hb;split at h2
   ·cases h2;exact h a s x _ h1
   ·rw [ih _ s' b t h2,h a s x s' h1]
 exact fun s b t hb=>key _ a s b t hb
theorem ki (n:Nat):Kp (rdN bs n):=fun s a s' h=>by obtain ⟨_,_,rfl⟩:=xn h;rfl
theorem zay (ls:List Nat):Kp (rdS bs ls):=fun s a s' h=>by obtain ⟨_,_,_,rfl⟩:=xU h;rfl
theorem Uj (o:Option (Nat × Nat)):Kp (grown bs o):=by
 cases o with
 | none=>intro s a s' h;cases h
 | some x=>exact (ki x.2).bind fun v s a s' h=>by cases h;rfl
theorem zfj (ol:List Nat) (y:Nat):Kp (again bs lim ol y):=by
 refine (Uj _).bind fun n=>(zay ol).bind fun d=>(Uj _).bind fun far s a s' h=>?_
 split at h
 ·cases h
 ·split at h
  ·cases h
  ·cases h;rfl
theorem ziR (fl ol:List Nat) (u:Unit):Kp (zan bs lim fl ol u):=by
 refine (zay fl).bind fun y s a s' h=>?_
 split at h
 ·split at h
  ·cases h
  ·cases h;rfl
 ·split at h
  ·cases h;rfl
  ·obtain ⟨_,s2,h1,h2⟩:=Res.bind_is h
   cases h2;exact zfj (lim:=lim) ol y { s with steps:=s.steps+1 } _ _ h1
theorem zcn (fl ol:List Nat):Kp (xF bs lim fl ol):=Kp.run (ziR fl ol) ()
theorem zde:Kp (stored bs lim):=by
 intro s a s' h;obtain ⟨n,s1,h1,h⟩:=Res.bind_is h;obtain ⟨m,s2,h2,h⟩:=Res.bind_is h;have k1:=ki 16 _ _ _ h1;have k2:=ki 16 _ _ _ h2;split at h
 ·cases h
 ·split at h
  ·cases h
  ·split at h
   ·cases h
   ·cases h
    exact k2.trans k1
theorem zkf (own:List Nat):Kp (itm bs own):=by
 refine (zay own).bind fun y s a s' h=>?_
 split at h
 ·exact (ki (xb y)).bind (k:=fun v s2 => .ok (y,v) s2) (fun v s a s' h=>by cases h;rfl) s a s' h
 ·cases h;rfl
theorem zir (own:List Nat) (n:Nat) (row:List Nat):Kp (yx bs own n row):=by
 refine (zkf own).bind fun x s a s' h=>?_
 split at h
 ·cases h
 ·split at h
  ·cases h
  ·cases h;rfl
theorem zhV (own:List Nat) (n:Nat):Kp (lens bs own n):=Kp.run (zir own n) []
theorem zkR:∀ k l,Kp (rdO bs k l):=by
 intro k;induction k with
 | zero=>intro l s a s' h;cases h;rfl
 | succ k ih=>intro l;exact (ki 3).bind fun v=>ih _
theorem zfH (l:Nat) (row:List Nat):Kp (J2 bs lim l row):=by
 intro s a s' h;unfold J2 at h;split at h
 ·cases h
 ·split at h
  ·exact zcn _ _ s a s' h
  ·cases h
theorem zew (l d:Nat) (o:List Nat):Kp (yh bs lim l d o):=by
 intro s a s' h;unfold yh at h;split at h
 ·cases h
 ·exact (zhV _ _).bind (zfH l) s a s' h
theorem zeF:Kp (uQ bs lim):=by
 refine (ki 5).bind fun l=>(ki 5).bind fun d=>(ki 4).bind fun c s a s' h=>?_
 unfold XB at h;split at h
 ·cases h
 ·exact (zkR _ _).bind (zew l d) s a s' h
def kind (bs:List Nat) (lim k:Nat) (s:Sta):Res Unit:=
 if k=0 then stored bs lim s else if k=1 then xF bs lim zU ql s else if k=2 then uQ bs lim s else .bad 10
theorem QE (k:Nat):Kp (kind bs lim k):=by
 intro s a s' h;unfold kind at h;split at h
 ·exact zde s a s' h
 ·split at h
  ·exact zcn _ _ s a s' h
  ·split at h
   ·exact zeF s a s' h
   ·cases h
theorem zgA (s:Sta):blk bs lim s=(rdN bs 2 s).bind fun k s1=>kind bs lim k s1:=by
 unfold blk kind;simp only [vU]
def aft (bs:List Nat) (lim last:Nat) (s:Sta):Res Unit:=
 if last=1 then .ok () { s with blocks:=s.blocks+1 } else run (8*bs.length) (xJ bs lim) () { s with blocks:=s.blocks+1 }
theorem ziv (hb:Bs bs){s:Sta}(hs:s.at_≤8*bs.length) :
  run (8*bs.length) (xJ bs lim) () s=(rdN bs 1 s).bind fun last s1=>(rdN bs 2 s1).bind fun k s2=>(kind bs lim k s2).bind fun _ s3=>aft bs lim last s3:=by
 have he:xJ bs lim () s=(rdN bs 1 s).bind fun last s1=>(rdN bs 2 s1).bind fun k s2=>(kind bs lim k s2).bind fun _ s3 => .ok (decide (last=1),()) { s3 with blocks:=s3.blocks+1 }:=by
  unfold xJ;simp only [Res.bind_assoc,zgA]
 rw [xl (xp hb) () hs,he];simp only [Res.bind_assoc];congr 1
 funext last s1
 congr 1
 funext k s2
 congr 1
 funext u s3
 unfold aft;simp only [Res.bind_ok];by_cases h:last=1
 ·simp [h]
 ·simp [h]
end
structure Qr (w:World) (p:Nat) (bs:List Nat) (lim n:Nat) (rv:Value) (wr:World):Prop where
 blk:Blk wr p 37 #[rv,.int .i64 0,.slice none 0 0,.int .i64 (lim:Nat),.int .i64 0,.int .i64 0,.int .i64 0]
 row:wr.ownsRow w.heap.size 5 1 rv n (u8s (qj bs n))
 below:Below w.heap.size w wr
 hp:w.heap.size≤p
theorem Qr.put {w wr w1:World}{p n lim:Nat}{bs:List Nat}{rv v':Value}{o:Obj}{b:Nat}(h:Qr w p bs lim n rv wr) (hb:b=num bs/2^n%2) (hA:Apd (wr.alloc o).drew w.heap.size rv (qj bs n++[b]) v' w1) :
  w1.cell? ⟨p,0,none⟩=some rv∧w1.frozen? ⟨p,0,none⟩=false∧Hid (Qr w p bs lim (n+1) v' (w1.setCell ⟨p,0,none⟩ v')):=by
 have hb1:Blk wr p 37 _:=h.blk;have hne:∀ k,rv.ownBlock=some k→k≠p:=by
  intro k hk;obtain ⟨cs',hc⟩:=zZ h.row hk;rintro rfl;rw [Blk,hc] at hb1;simp at hb1
 have t1:Touch (fun k=>rv.ownBlock=some k) wr w1:=(((Touch.refl _ wr).alloc o).drew).trans hA.touch;have hb2:=h.blk.touch t1 (fun e=>hne _ e rfl);have hpl:=h.blk.lt;refine ⟨(hb2.cell 0).trans rfl,hb2.free 0,J ⟨hb2.setCell 0 _,?_,?_,h.hp⟩⟩
 ·have t2:Touch (fun k=>k=p) w1 (w1.setCell ⟨p,0,none⟩ v'):=(Touch.refl _ w1).setCell _ _ (.inl rfl)
  have ho:=zd hA.own t2 fun k hk e=>by
   rcases hA.row k hk with h1 | h1
   ·exact hne k h1 e
   ·have:(wr.alloc o).drew.heap.size=wr.heap.size+1:=by simp [World.drew]
    omega
  rw [zbr,←hb];rw [List.length_append,qQ] at ho;exact ho
 ·exact (h.below.trans (t1.below h.below.size fun k hk=>(h.row.lt k hk).1)).setCell h.hp _
theorem zet (i:Nat) (hi:i<256):bits BinOp.and IntKind.u8 (i:Int) 1=((i%2:Nat):Int):=by
 have key:∀ i:Nat,i<256→bits BinOp.and IntKind.u8 (i:Int) 1=((i%2:Nat):Int):=by decide +kernel
 exact key i hi
theorem QI {bs:List Nat}{lim:Nat}(k:Nat):NZ (8*bs.length) (kind bs lim k):=by
 intro s er hs h;unfold kind at h;split at h
 ·exact KY s er hs h
 ·split at h
  ·exact vG _ _ s er hs h
  ·split at h
   ·rw [←vU] at h
    exact (UO.bind yT fun c=>vG c.1 c.2) s er hs h
   ·cases h;omega
theorem QN {bs:List Nat}{lim:Nat}(hb:Bs bs) (k:Nat):Pr (8*bs.length) lim (kind bs lim k):=by
 intro s a s' hs h;unfold kind at h;split at h
 ·exact KA hb s a s' hs h
 ·split at h
  ·exact vv _ _ s a s' hs h
  ·split at h
   ·rw [←vU] at h
    exact (yT.bind fun c=>vv c.1 c.2) s a s' hs h
   ·cases h
theorem QS.blocks {B p:Nat}{rv:Value}{bs:List Nat}{lim nb er:Nat}{w:World}{ov:Value}{s:Sta}(h:QS B p rv bs lim nb er w ov s) (x:Nat):QS B p rv bs lim nb er w ov { s with blocks:=x }:=
 ⟨h.blk,h.row,h.own,h.ne,h.hp,h.len,h.lim_,h.in_,h.out,h.steps,h.nb_,h.er_,h.bytes,h.bsb⟩
def zms (w:World) (bs:List Nat) (lim:Nat) (r:Res Unit) (e:Ending) (w':World):Prop:=
 Below w.heap.size w w'∧∃ (p:Nat) (rv ov:Value) (s:Sta) (nb er:Nat),e=.returned (.tuple #[.pointer (some ⟨p,0,none⟩),.int .i64 (er:Nat)])∧QS w.heap.size p rv bs lim nb er w' ov s∧
  ((r=.bad er∧er≠0)∨(er=0∧r=.ok () s∧nb=s.blocks))
inductive Bq (w:World) (p:Nat) (rv:Value) (bs:List Nat) (lim:Nat) (R:Res Unit) (gm:Nat) (v9:Value) (wr:World):Prop where
 | go (ov':Value) (s':Sta) (q:QS w.heap.size p rv bs lim s'.blocks 0 wr ov' s') (b:Below w.heap.size w wr) (h9:v9=.int .i64 0) (r:R=run (8*bs.length) (xJ bs lim) () s') (sb:s'.blocks≤s'.at_) (g:8*bs.length+1-s'.at_≤gm)
 | done (ov':Value) (s':Sta) (q:QS w.heap.size p rv bs lim s'.blocks 0 wr ov' s') (b:Below w.heap.size w wr) (h9:v9=.int .i64 1) (r:R=.ok () s')
 | bad (er nb l:Nat) (ov':Value) (s':Sta) (q:QS w.heap.size p rv bs lim nb er wr ov' s') (b:Below w.heap.size w wr) (h9:v9=.int .i64 (l:Nat)) (r:R=.bad er) (h:er≠0)
set_option maxHeartbeats 6400000 in
theorem QX {w:World}{v:Value}{bs:List Nat}(h:zi w v bs) (hb:Bs bs) (hl:bs.length≤2000) (limit:Int) (lim:Nat) (hlim:lim=limit.toNat) (hl2:lim≤2000000) :
  Calls prog 15 #[v,.int .i64 limit] w (zms w bs lim (infl bs lim)):=by
 have hmx:max limit 0=(lim:Int):=by omega
 have HM:=J hmx;obtain ⟨ao,c,rfl⟩:=h.len;obtain ⟨R,hR⟩:=exq (infl bs lim);rw [←hR];have HR0:=J hR;have HS:=J fun W (hW:Below w.heap.size w W)=>h.grow hW
 have HB:=J hb;obtain ⟨N,hN⟩:=exq (bs.length);have HN:=J hN;have HL:=J (And.intro hl hl2);have hNb:N≤2000:=by omega
 obtain ⟨p,hp⟩:=exq (w.heap.size);have H0:Hid (Qr w p bs lim (8*0) (.slice none 0 0) (w.alloc (.cells #[.slice none 0 0,.int .i64 0,.slice none 0 0,.int .i64 (lim:Nat),.int .i64 0,.int .i64 0,.int .i64 0] 37))):=
  J ⟨by rw [hp];exact Blk.made _ _ _,World.ownsRow_nil _ _ _ _,(Below.refl _ w).alloc (Nat.le_refl _) _,by omega⟩
 rw [←hN] at HS ⊢;clear h hb hmx hlim hR hl hl2 hN;go_enter func15,ntmps15;go_wp2;rw [HM.out];rw [←hp];clear hp;go_loopg [7] (N+1) (fun gm v7 wr=>∃ i,i≤N∧N+1-i≤gm∧v7=.int .i64 (i:Nat)∧Hid (∃ rv,Qr w p bs lim (8*i) rv wr))
 case atStart=>exact ⟨0,Nat.zero_le _,Nat.le_refl _,rfl,J ⟨_,H0.out⟩⟩
 case round=>
  clear H0;obtain ⟨i,hi,hgm,rfl,HX⟩:=hrel;by_cases hlt:i<N
  ·have hlt':(i:Int)<N:=by omega
   have HX0:Hid (∃ rv,Qr w p bs lim (8*i+0) rv wr):=HX;clear HX;go_wp2;go_loopg [8] 9 (fun gm v8 wr2=>∃ k,k≤8∧9-k≤gm∧v8=.int .i64 (k:Nat)∧Hid (∃ rv,Qr w p bs lim (8*i+k) rv wr2))
   case atStart=>exact ⟨0,Nat.zero_le _,Nat.le_refl _,rfl,HX0⟩
   case round=>
    clear HX0;obtain ⟨k,hk,hgk,rfl,HY⟩:=hrel;by_cases hk8:k<8
    ·have hk8':(k:Int)<8:=by omega
     obtain ⟨rv,hq⟩:=HY.out;obtain ⟨m,hm⟩:=exq (8*i+k);rw [←hm] at hq;obtain ⟨a1,c1,rfl⟩:=zr hq.row;have HQ:=J hq;obtain ⟨xs,hxs⟩:=exq (qj bs m);have hxl:xs.length=m:=by rw [hxs,qQ]
     have HXS:=J hxs;have HOWN:Hid (wr.ownsRow w.heap.size 5 1 (.slice a1 m c1) xs.length (u8s xs)):=J (by rw [hxl,hxs];exact hq.row);have hBS:=hq.below.size;obtain ⟨b1,off,rfl,g1⟩:=(show zi wr (.slice ao bs.length c) bs by rw [←HN.out];exact HS.out wr hq.below).get i (by rw [←HN.out];exact hlt);obtain ⟨x,hx⟩:=exq (bs.getD i 0);rw [←hx] at g1;have hx256:x<256:=by rw [hx];exact yR HB.out i
     obtain ⟨q,hqe⟩:=exq (x/2^k);have hq256:q<256:=by rw [hqe];exact Nat.lt_of_le_of_lt (Nat.div_le_self _ _) hx256
     obtain ⟨bt,hbt⟩:=exq (q%2);have e0:IntKind.u64.wrap (k:Int)=k:=by rw [IntKind.wrap_u64];omega
     have e1:(x:Int)/2^k=(q:Nat):=by rw [hqe];simp
     have e2:=zet q hq256;rw [←hbt] at e2;have hb2:bt≤1:=by omega
     have HBT:Hid (bt=num bs/2^m%2):=J (by
      have h1:=ze8 HB.out m;rw [show m/8=i by omega,show m%8=k by omega] at h1;rw [hbt,hqe,hx];exact h1)
     have c0:=(hq.blk.cell 0).trans (show _=some (.slice a1 m c1) from rfl);have ta:=(Touch.refl (fun _=>False) wr).alloc (.cells #[.int .u8 (bt:Nat)] 5);have c0':=((hq.blk.touch ta (fun h=>h)).cell 0).trans (show _=some (.slice a1 m c1) from rfl);have HMM:=J hm;have hmb:m≤16000:=by omega
     have HXL:=J hxl;clear hq hxs hxl hx hqe hbt hm ta HY;go_wp2;go_region_law (refine qJ rfl (.tmp 35) (.tmp 44) rfl w.heap.size (.slice a1 m c1) (.slice (some ⟨wr.heap.size,0,none⟩) 1 1) xs [bt] (by simp [Act.eval]) (by simp [Act.eval]) (World.ownsRow.alloc (w:=wr) HOWN.out _) (yq wr bt rfl) (by simp;omega) (by simp;rw [HXL.out];omega) ?_;intro ao2 cc2 w2 hA;rw [HXS.out] at hA;obtain ⟨m1,m2,m3⟩:=HQ.out.put HBT.out hA;clear hA)
     all_goals
      go_wp2;go_roundg (9-(k+1))
      case measure=>omega
      case rel=>
       have h9:=m3.out;rw [←HXS.out,List.length_append,List.length_singleton,HMM.out] at h9;exact ⟨k+1,by omega,Nat.le_refl _,by simp,J ⟨_,h9⟩⟩
    ·obtain rfl:k=8:=by omega
     go_wp2;go_roundg (N+1-(i+1))
     case measure=>omega
     case rel=>exact ⟨i+1,by omega,Nat.le_refl _,by simp,HY⟩
  ·obtain rfl:i=N:=by omega
   obtain ⟨rv,hq⟩:=HX.out;have HT0:Hid (Bq w p rv bs lim R (8*bs.length+1) (.int .i64 0) wr):=J (.go (.slice none 0 0) st0
    ⟨hq.blk,by rw [←HN.out];exact hq.row,World.ownsRow_nil _ _ _ _,fun k hk=>absurd hk (by simp [Value.ownBlock]),hq.hp,HL.out.1,HL.out.2,Nat.zero_le _,Nat.zero_le _,Nat.zero_le _,Nat.zero_le _,Nat.zero_le _,Bs.nil,HB.out⟩
    hq.below rfl HR0.out (Nat.le_refl _) (by simp [st0]))
   clear hq HX HR0 hi hgm hlt;go_wp2;go_loopg [9] (8*bs.length+1) (fun gm v9 wr=>Hid (Bq w p rv bs lim R gm v9 wr))
   case atStart=>exact HT0
   case round=>
    clear HT0;cases hrel.out with
    | done ov1 s1 q b h9 r=>
     subst h9;have c4:=q.cells.c4;have HT:=J q;have BT:=J b;have HRD:=J r;clear q b r hrel;go_wp2;go_quiet (fail)
     go_wp2;go_ret2
     exact ⟨BT.out.trans (HT.out.below (HT.out.drewN _).2.touch),p,rv,_,_,_,_,rfl,(HT.out.drewN _).1,(.inr ⟨rfl,HRD.out,rfl⟩)⟩
    | bad er nb l ov1 s1 q b h9 r her=>
     subst h9;have c4:=q.cells.c4;have dE:((er:Int) == 0)=false:=by simp;omega
     have HT:=J q;have BT:=J b;have HRT:=J (Or.inl (And.intro r her):(R=.bad er∧er≠0)∨(er=0∧R=.ok () s1∧nb=s1.blocks));clear q b r her hrel;by_cases hl0:l=0
     ·subst hl0
      go_wp2;go_quiet (fail)
      go_wp2;go_ret2
      exact ⟨BT.out.trans (HT.out.below (HT.out.drewN _).2.touch),p,rv,_,_,_,_,rfl,(HT.out.drewN _).1,HRT.out⟩
     ·have d9:((l:Int) == 0)=false:=by simp;omega
      clear hl0;go_wp2;go_quiet (fail)
      go_wp2;go_ret2
      exact ⟨BT.out.trans (HT.out.below (HT.out.drewN _).2.touch),p,rv,_,_,_,_,rfl,(HT.out.drewN _).1,HRT.out⟩
    | go ov0 s0 q b h9 r sb g=>
     subst h9;have hin:=q.in_;have c4:=q.cells.c4;rw [ziv HB.out hin] at r;have HR:=J r;have N1:=J (x7 q 1 (by omega));have B0:=J b;have Q0:=J q;have hsb:s0.blocks≤16000:=by have:=q.len;omega
     clear q b r hrel;go_wp2_with fail
     refine N1.out.mono ?_;rintro e w1 h1;have hR:=HR.out;cases hr1:rdN bs 1 s0 with
     | bad er=>
      rw [hr1] at h1 hR;obtain rfl:=JM hr1;obtain ⟨rfl,ov1,s1,h1,m1⟩:=h1;have Q1:=J h1;have B1:=J (B0.out.trans (Q0.out.below m1.touch));have HR1:=J hR;clear hr1 hR h1 m1 N1 c4;go_wp2_with fail
      refine (jq Q1.out (by omega) 2).mono ?_;rintro e w2 ⟨rfl,qn,hw2⟩;have hq2:=Q1.out.drewN qn;rw [←hw2] at hq2;have HT:=J hq2.1;have BT:=J (B1.out.trans (Q1.out.below hq2.2.touch));have HRT:=J (Or.inl (And.intro HR1.out (by omega)):(R=.bad 15∧(15:Nat)≠0)∨((15:Nat)=0∧R=.ok () s1∧s0.blocks=s1.blocks));have c4:=hq2.1.cells.c4;clear hq2 hw2;go_wp2;go_quiet (fail)
      go_wp2;go_ret2
      exact ⟨BT.out.trans (HT.out.below (HT.out.drewN _).2.touch),p,rv,_,_,_,_,rfl,(HT.out.drewN _).1,HRT.out⟩
     | ok last s1=>
      rw [hr1] at h1 hR;have hlast:=qE hr1;obtain ⟨_,kx,hs1⟩:=xn hr1;clear kx;have hlast2:last<2:=hlast;obtain ⟨rfl,ov1,h1,m1⟩:=h1;rw [Res.bind_ok] at hR;have N2:=J (x7 h1 2 (by omega));have Q1:=J h1;have B1:=J (B0.out.trans (Q0.out.below m1.touch));have HR1:=J hR;have HS1:=J hs1;clear hr1 hR h1 m1 N1 c4 hlast hs1 HR;go_wp2_with fail
      refine N2.out.mono ?_;rintro e w2 h2;have hR:=HR1.out;cases hr2:rdN bs 2 s1 with
      | bad er=>
       rw [hr2] at h2 hR;obtain rfl:=JM hr2;obtain ⟨rfl,ov2,s2,h2,m2⟩:=h2;have HT:=J h2;have BT:=J (B1.out.trans (Q1.out.below m2.touch));have HRT:=J (Or.inl (And.intro hR (by omega)):(R=.bad 15∧(15:Nat)≠0)∨((15:Nat)=0∧R=.ok () s2∧s0.blocks=s2.blocks));have c4:=h2.cells.c4;clear hr2 hR h2 m2 N2 HR1;go_wp2;go_quiet (fail)
       go_wp2;go_ret2
       exact ⟨BT.out.trans (HT.out.below (HT.out.drewN _).2.touch),p,rv,_,_,_,_,rfl,(HT.out.drewN _).1,HRT.out⟩
      | ok k s2=>
       rw [hr2] at h2 hR;have hk:=qE hr2;obtain ⟨_,kx,hs2⟩:=xn hr2;clear kx;have hk4:k<4:=hk;obtain ⟨rfl,ov2,h2,m2⟩:=h2;rw [Res.bind_ok] at hR;have hin2:=h2.in_;have HS2:Hid (s2={ s0 with at_:=s0.at_+1+2 }):=J (by rw [hs2,HS1.out]);have c4:=h2.cells.c4;have c6:=h2.cells.c6;have f6:=h2.cells.f6;have hq3:=h2.setBlocks (s0.blocks+1) (by omega) (x:=(s0.blocks:Int)+1) (by simp);have Q3:=J hq3.1;have B2:=J ((B1.out.trans (Q1.out.below m2.touch)).trans (h2.below hq3.2.touch));clear hr2 hk hs2 h2 m2 hq3 N2 HR1;rcases (by omega:k=0∨k=1∨k=2∨k=3) with rfl | rfl | rfl | rfl
       ·have HK:=J (XV Q3.out)
        go_wp2_with fail
        refine HK.out.mono ?_;rintro e w3 h3;cases hkd:kind bs lim 0 s2 with
        | bad er=>
         have her:=QI 0 s2 er hin2 hkd;have hkd':stored bs lim s2=.bad er:=hkd;rw [hkd'] at h3;rw [hkd,Res.bind_bad] at hR;obtain ⟨rfl,ov3,s3,h3,m3⟩:=h3;have Q3':=J h3;have B3:=J (B2.out.trans (Q3.out.below m3.touch));have HRR:=J hR;have HER:=J her;clear hkd hkd' hR h3 m3 her HK;go_wp2;go_roundg 0
         case measure=>omega
         case rel=>exact J (.bad er _ last _ _ Q3'.out B3.out rfl HRR.out HER.out)
        | ok u s3=>
         have hle:=(QN (lim:=lim) HB.out 0 s2 u s3 hin2 hkd).at_;have hbl:=QE 0 s2 u s3 hkd;have hkd':stored bs lim s2=.ok u s3:=hkd;rw [hkd'] at h3;rw [hkd,Res.bind_ok] at hR;obtain ⟨rfl,ov3,h3,m3⟩:=h3;have Q3':=J (h3.blocks (s3.blocks+1));have B3:=J (B2.out.trans (Q3.out.below m3.touch));have HBL:Hid (s0.blocks+1=s3.blocks+1):=J (by rw [hbl,HS2.out]);rw [HBL.out] at Q3';unfold aft at hR;have hat3:s0.at_+3≤s3.at_:=by rw [HS2.out] at hle;exact hle
         have hin3:=h3.in_;have hbl3:s3.blocks=s0.blocks:=by rw [hbl,HS2.out]
         rcases (by omega:last=0∨last=1) with rfl | rfl
         ·rw [if_neg (by omega)] at hR
          have HRR:=J hR;clear hkd hkd' hR h3 m3 HK hbl;go_wp2;go_roundg (8*bs.length+1-s3.at_)
          case measure=>omega
          case rel=>exact J (.go _ _ Q3'.out B3.out rfl HRR.out (by show s3.blocks+1≤s3.at_;omega) (Nat.le_refl _))
         ·rw [if_pos rfl] at hR
          have HRR:=J hR;clear hkd hkd' hR h3 m3 HK hbl;go_wp2;go_roundg 0
          case measure=>omega
          case rel=>exact J (.done _ _ Q3'.out B3.out rfl HRR.out)
       ·go_wp2_with fail
        refine (zbC _).mono ?_;rintro e wf ⟨a1,c1,a2,c2,rfl,i1,i2,bf⟩;have hf:=Q3.out.grow bf;have F1:=J hf;have hN1:=QW a1 c1 qo zU wf i1 zcA ku.1 Qg;rw [jz] at hN1;have HN1:=J hN1;have I2:=J i2;clear hN1 hf i1 i2 bf;go_wp2_with fail
        refine HN1.out.mono ?_;rintro e wg ⟨p1,rfl,st1,bg⟩;have hg:=F1.out.1.grow bg;have hN2:=QW a2 c2 xT ql wg (I2.out.below bg) zcH kC.1 KP;rw [uz] at hN2;have HN2:=J hN2;have CD1:Hid (Cod wg p ov2 p1 zU):=J fun w2 ht=>(st1 w2 (ht.mono fun k hk=>F1.out.1.top k hk)).1
        have F2:=J (And.intro hg.1 (F1.out.2.trans hg.2));clear hN2 hg st1 bg HN1 I2 F1;go_wp2_with fail
        refine HN2.out.mono ?_;rintro e wh ⟨p2,rfl,st2,bh⟩;have hh:=F2.out.1.grow bh;have CD2:Hid (Cod wh p ov2 p2 ql):=J fun w2 ht=>(st2 w2 (ht.mono fun k hk=>F2.out.1.top k hk)).1
        have CE1:=J (CD1.out.on hh.2);have HK:=J (y4 hh.1 CE1.out CD2.out ku.1 kC.1);have B2:=J (B2.out.trans (Q3.out.below (F2.out.2.trans hh.2).touch));have Q3:=J hh.1;clear hh st2 bh HN2 F2 CD1;go_wp2_with fail
        refine HK.out.mono ?_;rintro e w3 h3;cases hkd:kind bs lim 1 s2 with
        | bad er=>
         have her:=QI 1 s2 er hin2 hkd;have hkd':xF bs lim zU ql s2=.bad er:=hkd;rw [hkd'] at h3;rw [hkd,Res.bind_bad] at hR;obtain ⟨rfl,ov3,s3,h3,m3⟩:=h3;have Q3':=J h3;have B3:=J (B2.out.trans (Q3.out.below m3.touch));have HRR:=J hR;have HER:=J her;clear hkd hkd' hR h3 m3 her HK;go_wp2;go_roundg 0
         case measure=>omega
         case rel=>exact J (.bad er _ last _ _ Q3'.out B3.out rfl HRR.out HER.out)
        | ok u s3=>
         have hle:=(QN (lim:=lim) HB.out 1 s2 u s3 hin2 hkd).at_;have hbl:=QE 1 s2 u s3 hkd;have hkd':xF bs lim zU ql s2=.ok u s3:=hkd;rw [hkd'] at h3;rw [hkd,Res.bind_ok] at hR;obtain ⟨rfl,ov3,h3,m3⟩:=h3;have Q3':=J (h3.blocks (s3.blocks+1));have B3:=J (B2.out.trans (Q3.out.below m3.touch));have HBL:Hid (s0.blocks+1=s3.blocks+1):=J (by rw [hbl,HS2.out]);rw [HBL.out] at Q3';unfold aft at hR;have hat3:s0.at_+3≤s3.at_:=by rw [HS2.out] at hle;exact hle
         have hin3:=h3.in_;have hbl3:s3.blocks=s0.blocks:=by rw [hbl,HS2.out]
         rcases (by omega:last=0∨last=1) with rfl | rfl
         ·rw [if_neg (by omega)] at hR
          have HRR:=J hR;clear hkd hkd' hR h3 m3 HK hbl;go_wp2;go_roundg (8*bs.length+1-s3.at_)
          case measure=>omega
          case rel=>exact J (.go _ _ Q3'.out B3.out rfl HRR.out (by show s3.blocks+1≤s3.at_;omega) (Nat.le_refl _))
         ·rw [if_pos rfl] at hR
          have HRR:=J hR;clear hkd hkd' hR h3 m3 HK hbl;go_wp2;go_roundg 0
          case measure=>omega
          case rel=>exact J (.done _ _ Q3'.out B3.out rfl HRR.out)
       ·have HK:=J (zdt Q3.out)
        go_wp2_with fail
        refine HK.out.mono ?_;rintro e w3 h3;cases hkd:kind bs lim 2 s2 with
        | bad er=>
         have her:=QI 2 s2 er hin2 hkd;have hkd':uQ bs lim s2=.bad er:=hkd;rw [hkd'] at h3;rw [hkd,Res.bind_bad] at hR;obtain ⟨rfl,ov3,s3,h3,m3⟩:=h3;have Q3':=J h3;have B3:=J (B2.out.trans (Q3.out.below m3.touch));have HRR:=J hR;have HER:=J her;clear hkd hkd' hR h3 m3 her HK;go_wp2;go_roundg 0
         case measure=>omega
         case rel=>exact J (.bad er _ last _ _ Q3'.out B3.out rfl HRR.out HER.out)
        | ok u s3=>
         have hle:=(QN (lim:=lim) HB.out 2 s2 u s3 hin2 hkd).at_;have hbl:=QE 2 s2 u s3 hkd;have hkd':uQ bs lim s2=.ok u s3:=hkd;rw [hkd'] at h3;rw [hkd,Res.bind_ok] at hR;obtain ⟨rfl,ov3,h3,m3⟩:=h3;have Q3':=J (h3.blocks (s3.blocks+1));have B3:=J (B2.out.trans (Q3.out.below m3.touch));have HBL:Hid (s0.blocks+1=s3.blocks+1):=J (by rw [hbl,HS2.out]);rw [HBL.out] at Q3';unfold aft at hR;have hat3:s0.at_+3≤s3.at_:=by rw [HS2.out] at hle;exact hle
         have hin3:=h3.in_;have hbl3:s3.blocks=s0.blocks:=by rw [hbl,HS2.out]
         rcases (by omega:last=0∨last=1) with rfl | rfl
         ·rw [if_neg (by omega)] at hR
          have HRR:=J hR;clear hkd hkd' hR h3 m3 HK hbl;go_wp2;go_roundg (8*bs.length+1-s3.at_)
          case measure=>omega
          case rel=>exact J (.go _ _ Q3'.out B3.out rfl HRR.out (by show s3.blocks+1≤s3.at_;omega) (Nat.le_refl _))
         ·rw [if_pos rfl] at hR
          have HRR:=J hR;clear hkd hkd' hR h3 m3 HK hbl;go_wp2;go_roundg 0
          case measure=>omega
          case rel=>exact J (.done _ _ Q3'.out B3.out rfl HRR.out)
       ·have HRR:Hid (R=.bad 10):=J (by rw [hR];rfl)
        clear hR;go_wp2_with fail
        refine (zK Q3.out 10 (by omega)).mono ?_;rintro e w3 ⟨rfl,h3,m3⟩;have Q3':=J h3;have B3:=J (B2.out.trans (Q3.out.below m3.touch));clear h3 m3;go_wp2;go_roundg 0
        case measure=>omega
        case rel=>exact J (.bad 10 _ last _ _ Q3'.out B3.out rfl HRR.out (by omega))
end
end Go.Proofs.YtacpfpghokcdlaaGreatDoor
