/- Part 21. -/
import Derived.Test.YtbogfailbgbdoaaGreatDoorXB20
set_option linter.unusedVariables false
set_option linter.unusedSimpArgs false
namespace Go.Proofs.YtbogfailbgbdoaaGreatDoor.K
set_option maxRecDepth 100000
section
open Go.RowKit Go.Proofs.YtbogfailbgbdoaaGreatDoor U
set_option maxHeartbeats 12800000 in
theorem rtoken_0 (w:World) (p:Nat) (xs:List Nat) (k fr pl:Nat) (h:Rp w p xs k fr 0 pl) (hd:¬isDc (k == 0) (xs.drop k)) (hy:[60,63] <+: xs.drop k) :
  Calls Tryz.prog 25 #[.pointer (some ⟨p,0,none⟩)] w (RkTo p xs k (plus 2 (piP ((xs.drop k).drop 2))) w):=by
 rw [List.drop_drop]
 have HBS:=Lib.hid h.bs
 have hlen:=h.len
 have hkl:=h.le
 have RB:=Lib.hid (Rr.begin h)
 obtain ⟨S,hS⟩:∃ S,S=txt xs:=⟨_,rfl⟩
 have HSS:=Lib.hid hS
 have hSz:S.size=xs.length:=by rw [hS];exact txt_size xs
 have HGET:Hid (∀ i (h:i<S.size),((S[i]'h).toNat)=xs.getD i 0):=Lib.hid fun i h=>by subst hS;exact txt_get xs HBS.out i _
 have HEX:=Lib.hid fun i j=>txt_extract xs i j
 rw [←hS] at HEX
 have KBL:=Lib.hid fun (v:Nat) W=>rBlank_any (v:Int) W
 obtain ⟨DC,hDC⟩:∃ DC,DC=decide (isDc (k == 0) (xs.drop k)):=⟨_,rfl⟩
 have HDC:=Lib.hid hDC
 have hA:=h.below (lit_below w (.cells z44 58))
 have a1:=hA.c1
 have a2:=hA.c2
 have g2:=hA.blk.free 2
 clear hS hDC hA
 go_enter Tryz.func25,Tryz.ntmps25
 go_upto_region 10 with fail
 refine gen_w0 fun W0 hW0=>?_
 have R0:Hid (Rr w W0 p xs k k 0 #[.int .i64 0,.string ⟨#[]⟩,.string ⟨#[]⟩,.slice none 0 0,.bool false,.int .i64 (k:Nat)]):=Lib.hid (by rw [hW0];exact RB.out)
 have c0:=R0.out.rq.c0
 rw [←HSS.out] at c0
 have c1:=R0.out.rq.c1
 clear hW0 RB a1 a2 g2
 go_cut [87] from 88 to 117 (fun s87 wx=>s87 = .bool DC∧wx=W0)
 case first=>
  by_cases hk:k=0
  ·subst hk
   have HD:Hid (DC=true↔5<xs.length∧[60,63,120,109,108] <+: xs∧blaP (xs.getD 5 0)=true):=Lib.hid (by rw [HDC.out,decide_eq_true_iff];exact isDc_is HBS.out)
   by_cases h5:5<xs.length
   ·have h5I:(5:Int)<S.size:=by rw [hSz];omega
    have hsl:∀ W,(Instr.slice 9 (.string S) none (some (.int .i64 5)) none).run Tryz.prog W = .ok (.string (S.extract 0 5)) W:=fun W=>by
     have h4:(5:Int)≤S.size:=by omega
     simp [go_sem,h4]
    have hpc:S.extract 0 5=txt (xs.take 5):=by rw [HEX.out];rfl
    by_cases hp:[60,63,120,109,108] <+: xs
    ·have ht5:xs.take 5=[60,63,120,109,108]:=(List.prefix_iff_eq_take.1 hp).symm
     have h5n:5<S.size:=by rw [hSz];exact h5
     obtain ⟨x,hx⟩:∃ x:UInt8,S[5]'h5n=x:=⟨_,rfl⟩
     have hxn:xs.getD 5 0=x.toNat:=by rw [←hx];exact (HGET.out 5 h5n).symm
     have hx256:=x.toNat_lt
     rw [hpc,ht5,show txt [60,63,120,109,108]=⟨#[60,63,120,109,108]⟩ from rfl] at hsl
     rw [hxn] at HD
     have KB2:=KBL.out x.toNat
     rw [show wth blankL (x.toNat:Int)=blaP x.toNat from rfl] at KB2
     obtain ⟨bb,hbb⟩:∃ b,b=blaP x.toNat:=⟨_,rfl⟩
     rw [←hbb] at KB2 HD
     have KB2:=Lib.hid KB2
     clear hbb hpc ht5 hxn
     go_wp2_with (go_at_call 44;(with_reducible refine (KB2.out _).mono ?_);rintro e w1 ⟨rfl,rfl⟩)
     go_meet
     case rel=>exact ⟨by
      have h1:=HD.out
      cases DC <;> cases bb <;> simp [h5,hp] at h1 ⊢,rfl⟩
    ·have hne:(S.extract 0 5).toList≠[60,63,120,109,108]:=by
      rw [hpc,txt_toList]
      intro e
      have:=u8L_inj (HBS.out.take 5) (bsl [60,63,120,109,108] rfl) e
      exact hp (List.prefix_iff_eq_take.2 this.symm)
     obtain ⟨PC,hPC⟩:∃ PC,PC=S.extract 0 5:=⟨_,rfl⟩
     rw [←hPC] at hsl hne
     have hne2:(PC.toList == [60,63,120,109,108])=false:=beq_eq_false_iff_ne.2 hne
     clear hpc hPC
     go_wp2
     go_meet
     case rel=>exact ⟨by
      have h1:=HD.out
      cases DC <;> simp [hp] at h1 ⊢,rfl⟩
   ·have h5I:¬(5:Int)<S.size:=by rw [hSz];omega
    go_wp2
    go_meet
    case rel=>exact ⟨by
     have h1:=HD.out
     cases DC <;> simp [h5] at h1 ⊢,rfl⟩
  ·have hkI:((k:Int) == 0)=false:=beq_eq_false_iff_ne.2 (by omega)
   have hkI2:¬(k:Int)=0:=by omega
   go_wp2
   go_meet
   case rel=>exact ⟨by
    have:DC=false:=by rw [HDC.out];exact decide_eq_false (fun e=>hk (by simpa using e.1))
    rw [this],rfl⟩
 case rest=>
  obtain ⟨rfl,hwc⟩:=hcut
  have hwc:=hwc.symm
  subst hwc
  obtain rfl:DC=false:=by rw [HDC.out];exact decide_eq_false hd
  clear c0 c1
  have hyl:=pre_le (by simp) hy
  obtain ⟨k2,hk2⟩:∃ k2,k2=k+2:=⟨_,rfl⟩
  have Y:Hid (∀ W,Rq W p xs k k 0→Calls Tryz.prog 46 #[.pointer (some ⟨p,0,none⟩),.string ⟨#[60,63]⟩] W (Rs p xs k (.bool true) k2 0 W)):=Lib.hid fun W hW=>by
   have:=qhas W p xs k k 0 [60,63] ⟨#[60,63]⟩ rfl (bsl _ rfl) (by simp) hW
   rw [if_pos ⟨rfl,hy⟩,decide_eq_true (show 0=0∧[60,63] <+: xs.drop k from ⟨rfl,hy⟩)] at this
   rw [hk2];exact this
  have HK2:=Lib.hid hk2
  obtain ⟨⟨T,n,e1⟩,hU⟩:∃ x,x=wdR (xs.drop k2) 0:=⟨_,rfl⟩
  obtain ⟨e9,he9⟩:∃ e9,e9=if e1=0∧T.map low=[120,109,108] then 22 else e1:=⟨_,rfl⟩
  have HR:=Lib.hid (pi_R hU.symm he9)
  have hwb:=wdR_bs (HBS.out.drop k2) 0
  rw [←hU,List.length_drop] at hwb
  simp only at hwb
  have KU:Hid (∀ W,Rq W p xs k2 k 0→Calls Tryz.prog 47 #[.pointer (some ⟨p,0,none⟩)] W (Rs p xs k (.string (txt T)) (k2+n) e1 W)):=Lib.hid fun W hW=>by
   have:=qword W p xs k2 k 0 hW
   rwa [←hU] at this
  have KS:=Lib.hid fun W=>rsmall_any T _ rfl hwb.1 W (by omega)
  have HTB:=Lib.hid (low_bs hwb.1)
  obtain ⟨TT,hTT⟩:∃ TT,TT=txt T:=⟨_,rfl⟩
  rw [←hTT] at KU KS
  have HTT:=Lib.hid hTT
  obtain ⟨k3,hk3⟩:∃ k3,k3=k2+n:=⟨_,rfl⟩
  rw [←hk3] at KU HR
  have HK3:=Lib.hid hk3
  have HE9:=Lib.hid he9
  by_cases hx:T.map low=[120,109,108]
  ·have he1:e1=0:=by
    unfold wdR at hU
    rw [if_pos rfl] at hU
    rcases hq:nmP (xs.drop k2) with x | i
    ·rw [hq] at hU
     injection hU with hU1 hU2
     rw [hU1] at hx
     simp at hx
    ·rw [hq] at hU
     injection hU with hU1 hU2
     injection hU2 with hU2 hU3
   subst he1
   obtain rfl:e9=22:=by rw [he9,if_pos ⟨rfl,hx⟩]
   rw [hx,show txt [120,109,108]=⟨#[120,109,108]⟩ from rfl] at KS
   have KF:Hid (∀ W,Rq W p xs k3 k 0→Calls Tryz.prog 49 #[.pointer (some ⟨p,0,none⟩),.int .i64 22] W (Rs p xs k (.tuple #[]) k3 22 W)):=Lib.hid fun W hW=>by
    have:=qfail W p xs k3 k 0 22 hW
    rwa [if_pos rfl] at this
   have KH:Hid (∀ W,Rq W p xs k3 k 22→Calls Tryz.prog 46 #[.pointer (some ⟨p,0,none⟩),.string ⟨#[63,62]⟩] W (Rs p xs k (.bool false) k3 22 W)):=Lib.hid fun W hW=>by
    have:=qhas W p xs k3 k 22 [63,62] ⟨#[63,62]⟩ rfl (bsl _ rfl) (by simp) hW
    rwa [if_neg (fun e=>by cases e.1),decide_eq_false (fun e=>by cases e.1)] at this
   have KB:Hid (∀ W,Rq W p xs k3 k 22→Calls Tryz.prog 50 #[.pointer (some ⟨p,0,none⟩)] W (Rs p xs k (.int .i64 0) k3 22 W)):=Lib.hid fun W hW=>qblanks W p xs k3 k 22 hW
   have KG:Hid (∀ W,Rq W p xs k3 k 22→Calls Tryz.prog 49 #[.pointer (some ⟨p,0,none⟩),.int .i64 22] W (Rs p xs k (.tuple #[]) k3 22 W)):=Lib.hid fun W hW=>by
    have:=qfail W p xs k3 k 22 22 hW
    rwa [if_neg (by decide)] at this
   have KT:Hid (∀ W,Rq W p xs k3 k 22→Calls Tryz.prog 51 #[.pointer (some ⟨p,0,none⟩),.string ⟨#[63,62]⟩] W (Rs p xs k (.string ⟨#[]⟩) k3 22 W)):=Lib.hid fun W hW=>by
    have:=quntil W p xs k3 k 22 [63,62] ⟨#[63,62]⟩ rfl (bsl _ rfl) (by simp) (by simp) hW
    rwa [unR_e (by decide)] at this
   clear h hy hyl hk2 hd hU he9 hwb hTT hk3 hx
   go_wp2_with (first
    | (go_at_call 46;(with_reducible refine (Y.out _ R0.out.rq).mono ?_);rintro e w1 ⟨rfl,ht,hs⟩;have R1:=Lib.hid (R0.out.step ht hs);clear ht hs;obtain ⟨ca0,ca1,ca2,ca3,ca4,ca5⟩:=R1.out.ce;obtain ⟨cb0,cb1,cb2,cb3,cb4,cb5⟩:=R1.out.fr6)
    | (go_at_call 47;(with_reducible refine (KU.out _ (R1.out.set 0 (.int .i64 2)).rq).mono ?_);rintro e w2 ⟨rfl,ht,hs⟩;have R2:=Lib.hid ((R1.out.set 0 (.int .i64 2)).step ht hs);clear ht hs;obtain ⟨ca0,ca1,ca2,ca3,ca4,ca5⟩:=R2.out.ce;obtain ⟨cb0,cb1,cb2,cb3,cb4,cb5⟩:=R2.out.fr6)
    | (go_at_call 48;(with_reducible refine (KS.out _).mono ?_);rintro e w3 ⟨rfl,hb⟩;have R3:=Lib.hid ((R2.out.set 1 (.string TT)).below hb);clear hb;obtain ⟨ca0,ca1,ca2,ca3,ca4,ca5⟩:=R3.out.ce;obtain ⟨cb0,cb1,cb2,cb3,cb4,cb5⟩:=R3.out.fr6)
    | (go_at_call 49;(with_reducible refine (KF.out _ R3.out.rq).mono ?_);rintro e w4 ⟨rfl,ht,hs⟩;have R4:=Lib.hid (R3.out.step ht hs);clear ht hs;obtain ⟨ca0,ca1,ca2,ca3,ca4,ca5⟩:=R4.out.ce;obtain ⟨cb0,cb1,cb2,cb3,cb4,cb5⟩:=R4.out.fr6)
    | (go_at_call 46;(with_reducible refine (KH.out _ R4.out.rq).mono ?_);rintro e w5 ⟨rfl,ht,hs⟩;have R5:=Lib.hid (R4.out.step ht hs);clear ht hs;obtain ⟨ca0,ca1,ca2,ca3,ca4,ca5⟩:=R5.out.ce;obtain ⟨cb0,cb1,cb2,cb3,cb4,cb5⟩:=R5.out.fr6)
    | (go_at_call 50;(with_reducible refine (KB.out _ R5.out.rq).mono ?_);rintro e w6 ⟨rfl,ht,hs⟩;have R6:=Lib.hid (R5.out.step ht hs);clear ht hs;obtain ⟨ca0,ca1,ca2,ca3,ca4,ca5⟩:=R6.out.ce;obtain ⟨cb0,cb1,cb2,cb3,cb4,cb5⟩:=R6.out.fr6)
    | (go_at_call 49;(with_reducible refine (KG.out _ R6.out.rq).mono ?_);rintro e w7 ⟨rfl,ht,hs⟩;have R7:=Lib.hid (R6.out.step ht hs);clear ht hs;obtain ⟨ca0,ca1,ca2,ca3,ca4,ca5⟩:=R7.out.ce;obtain ⟨cb0,cb1,cb2,cb3,cb4,cb5⟩:=R7.out.fr6)
    | (go_at_call 51;(with_reducible refine (KT.out _ R7.out.rq).mono ?_);rintro e w8 ⟨rfl,ht,hs⟩;have R8:=Lib.hid (R7.out.step ht hs);clear ht hs;obtain ⟨ca0,ca1,ca2,ca3,ca4,ca5⟩:=R8.out.ce;obtain ⟨cb0,cb1,cb2,cb3,cb4,cb5⟩:=R8.out.fr6;have hz0:=(R8.out.set 2 (.string ⟨#[]⟩)).ce0;obtain ⟨cz0,cz1,cz2,cz3,cz4,cz5⟩:=hz0;have hy0:=(R8.out.set 2 (.string ⟨#[]⟩)).fr0;obtain ⟨cy0,cy1,cy2,cy3,cy4,cy5⟩:=hy0))
   refine bodyPost_ret (res25 rfl (st6_any (R8.out.set 2 _).b0 _ _ _ _ _ _)) rfl ?_
   rw [HTT.out,←HK2.out]
   have hr:=HR.out.2 (fun e=>by cases e.1) 0 22 [] 0 22 rfl rfl (unR_e (by decide))
   refine (R8.out.set 2 _).end_ 2 T [] (plus_to (d:=2) ?_)
   have:=HK2.out
   have:=HK3.out
   generalize piP (xs.drop k2)=RR at hr ⊢
   rcases RR with x | ⟨t,m⟩
   ·exact hr
   ·exact absurd hr.2.2 (by decide)
  ·obtain rfl:e9=e1:=by rw [he9,if_neg (fun e=>hx e.2)]
   have hx1:(txt (T.map low)).toList≠[120,109,108]:=by
    rw [txt_toList]
    exact fun e=>hx (u8L_inj HTB.out (bsl [120,109,108] rfl) e)
   obtain ⟨TL,hTL⟩:∃ TL,TL=txt (T.map low):=⟨_,rfl⟩
   rw [←hTL] at KS hx1
   have hx2:(TL.toList == [120,109,108])=false:=beq_eq_false_iff_ne.2 hx1
   by_cases hq:e9=0∧[63,62] <+: xs.drop k3
   ·obtain ⟨rfl,hq2⟩:=hq
    have hq3:=pre_le (by simp) hq2
    obtain ⟨k4,hk4⟩:∃ k4,k4=k3+2:=⟨_,rfl⟩
    have HP:=Lib.hid (HR.out.1 ⟨rfl,hq2⟩)
    have KH:Hid (∀ W,Rq W p xs k3 k 0→Calls Tryz.prog 46 #[.pointer (some ⟨p,0,none⟩),.string ⟨#[63,62]⟩] W (Rs p xs k (.bool true) k4 0 W)):=Lib.hid fun W hW=>by
     have:=qhas W p xs k3 k 0 [63,62] ⟨#[63,62]⟩ rfl (bsl _ rfl) (by simp) hW
     rw [if_pos ⟨rfl,hq2⟩,decide_eq_true (show 0=0∧[63,62] <+: xs.drop k3 from ⟨rfl,hq2⟩)] at this
     rw [hk4];exact this
    have HK4:=Lib.hid hk4
    clear h hy hyl hk2 hd hU he9 hwb hTT hk3 hx hTL hq2 hq3 hk4
    go_wp2_with (first
     | (go_at_call 46;(with_reducible refine (Y.out _ R0.out.rq).mono ?_);rintro e w1 ⟨rfl,ht,hs⟩;have R1:=Lib.hid (R0.out.step ht hs);clear ht hs;obtain ⟨ca0,ca1,ca2,ca3,ca4,ca5⟩:=R1.out.ce;obtain ⟨cb0,cb1,cb2,cb3,cb4,cb5⟩:=R1.out.fr6)
     | (go_at_call 47;(with_reducible refine (KU.out _ (R1.out.set 0 (.int .i64 2)).rq).mono ?_);rintro e w2 ⟨rfl,ht,hs⟩;have R2:=Lib.hid ((R1.out.set 0 (.int .i64 2)).step ht hs);clear ht hs;obtain ⟨ca0,ca1,ca2,ca3,ca4,ca5⟩:=R2.out.ce;obtain ⟨cb0,cb1,cb2,cb3,cb4,cb5⟩:=R2.out.fr6)
     | (go_at_call 48;(with_reducible refine (KS.out _).mono ?_);rintro e w3 ⟨rfl,hb⟩;have R3:=Lib.hid ((R2.out.set 1 (.string TT)).below hb);clear hb;obtain ⟨ca0,ca1,ca2,ca3,ca4,ca5⟩:=R3.out.ce;obtain ⟨cb0,cb1,cb2,cb3,cb4,cb5⟩:=R3.out.fr6)
     | (go_at_call 46;(with_reducible refine (KH.out _ R3.out.rq).mono ?_);rintro e w4 ⟨rfl,ht,hs⟩;have R4:=Lib.hid (R3.out.step ht hs);clear ht hs;obtain ⟨ca0,ca1,ca2,ca3,ca4,ca5⟩:=R4.out.ce;obtain ⟨cb0,cb1,cb2,cb3,cb4,cb5⟩:=R4.out.fr6;have hz0:=R4.out.ce0;obtain ⟨cz0,cz1,cz2,cz3,cz4,cz5⟩:=hz0;have hy0:=R4.out.fr0;obtain ⟨cy0,cy1,cy2,cy3,cy4,cy5⟩:=hy0))
    refine bodyPost_ret (res25 rfl (st6_any R4.out.b0 _ _ _ _ _ _)) rfl ?_
    rw [HTT.out,←HK2.out,HP.out]
    have:=HK2.out
    have:=HK3.out
    have:=HK4.out
    exact R4.out.yes ⟨2,T,[],[],false⟩ (2+(n+2)) _ (by omega) (RAtV.nil _ _) (by simp)
   ·have KH:Hid (∀ W,Rq W p xs k3 k e9→Calls Tryz.prog 46 #[.pointer (some ⟨p,0,none⟩),.string ⟨#[63,62]⟩] W (Rs p xs k (.bool false) k3 e9 W)):=Lib.hid fun W hW=>by
     have:=qhas W p xs k3 k e9 [63,62] ⟨#[63,62]⟩ rfl (bsl _ rfl) (by simp) hW
     rwa [if_neg hq,decide_eq_false hq] at this
    obtain ⟨b,hb⟩:∃ b,b=(if e9=0 then sk blaP (xs.drop k3) else 0):=⟨_,rfl⟩
    have KB:Hid (∀ W,Rq W p xs k3 k e9→Calls Tryz.prog 50 #[.pointer (some ⟨p,0,none⟩)] W (Rs p xs k (.int .i64 (b:Nat)) (k3+b) e9 W)):=Lib.hid fun W hW=>by
     have:=qblanks W p xs k3 k e9 hW
     rwa [←hb] at this
    obtain ⟨k4,hk4⟩:∃ k4,k4=k3+b:=⟨_,rfl⟩
    rw [←hk4] at KB
    have HK4:=Lib.hid hk4
    obtain ⟨e3,he3⟩:∃ e3,e3=(if b=0∧e9=0 then 22 else e9):=⟨_,rfl⟩
    obtain ⟨⟨T2,m,e4⟩,hU2⟩:∃ x,x=unR [63,62] (xs.drop k4) e3:=⟨_,rfl⟩
    have HRR:=Lib.hid (HR.out.2 hq b e3 T2 m e4 hb he3 (by rw [←hk4];exact hU2.symm))
    have KT:Hid (∀ W,Rq W p xs k4 k e3→Calls Tryz.prog 51 #[.pointer (some ⟨p,0,none⟩),.string ⟨#[63,62]⟩] W (Rs p xs k (.string (txt T2)) (k4+m) e4 W)):=Lib.hid fun W hW=>by
     have:=quntil W p xs k4 k e3 [63,62] ⟨#[63,62]⟩ rfl (bsl _ rfl) (by simp) (by simp) hW
     rwa [←hU2] at this
    obtain ⟨TU,hTU⟩:∃ TU,TU=txt T2:=⟨_,rfl⟩
    rw [←hTU] at KT
    have HTU:=Lib.hid hTU
    obtain ⟨k5,hk5⟩:∃ k5,k5=k4+m:=⟨_,rfl⟩
    rw [←hk5] at KT
    have HK5:=Lib.hid hk5
    by_cases hb0:b=0
    ·have hbI:((b:Int) == 0)=true:=by rw [hb0];rfl
     have hbI2:(b:Int)=0:=by omega
     have KG:Hid (∀ W,Rq W p xs k4 k e9→Calls Tryz.prog 49 #[.pointer (some ⟨p,0,none⟩),.int .i64 22] W (Rs p xs k (.tuple #[]) k4 e3 W)):=Lib.hid fun W hW=>by
      have:=qfail W p xs k4 k e9 22 hW
      rw [show e3=if e9=0 then 22 else e9 by rw [he3];simp [hb0]]
      exact this
     clear h hy hyl hk2 hd hU he9 hwb hTT hk3 hx hTL hq hk4 hk5 hTU hU2 he3 hb
     go_wp2_with (first
      | (go_at_call 46;(with_reducible refine (Y.out _ R0.out.rq).mono ?_);rintro e w1 ⟨rfl,ht,hs⟩;have R1:=Lib.hid (R0.out.step ht hs);clear ht hs;obtain ⟨ca0,ca1,ca2,ca3,ca4,ca5⟩:=R1.out.ce;obtain ⟨cb0,cb1,cb2,cb3,cb4,cb5⟩:=R1.out.fr6)
      | (go_at_call 47;(with_reducible refine (KU.out _ (R1.out.set 0 (.int .i64 2)).rq).mono ?_);rintro e w2 ⟨rfl,ht,hs⟩;have R2:=Lib.hid ((R1.out.set 0 (.int .i64 2)).step ht hs);clear ht hs;obtain ⟨ca0,ca1,ca2,ca3,ca4,ca5⟩:=R2.out.ce;obtain ⟨cb0,cb1,cb2,cb3,cb4,cb5⟩:=R2.out.fr6)
      | (go_at_call 48;(with_reducible refine (KS.out _).mono ?_);rintro e w3 ⟨rfl,hb⟩;have R3:=Lib.hid ((R2.out.set 1 (.string TT)).below hb);clear hb;obtain ⟨ca0,ca1,ca2,ca3,ca4,ca5⟩:=R3.out.ce;obtain ⟨cb0,cb1,cb2,cb3,cb4,cb5⟩:=R3.out.fr6)
      | (go_at_call 46;(with_reducible refine (KH.out _ R3.out.rq).mono ?_);rintro e w4 ⟨rfl,ht,hs⟩;have R4:=Lib.hid (R3.out.step ht hs);clear ht hs;obtain ⟨ca0,ca1,ca2,ca3,ca4,ca5⟩:=R4.out.ce;obtain ⟨cb0,cb1,cb2,cb3,cb4,cb5⟩:=R4.out.fr6)
      | (go_at_call 50;(with_reducible refine (KB.out _ R4.out.rq).mono ?_);rintro e w5 ⟨rfl,ht,hs⟩;have R5:=Lib.hid (R4.out.step ht hs);clear ht hs;obtain ⟨ca0,ca1,ca2,ca3,ca4,ca5⟩:=R5.out.ce;obtain ⟨cb0,cb1,cb2,cb3,cb4,cb5⟩:=R5.out.fr6)
      | (go_at_call 49;(with_reducible refine (KG.out _ R5.out.rq).mono ?_);rintro e w6 ⟨rfl,ht,hs⟩;have R6:=Lib.hid (R5.out.step ht hs);clear ht hs;obtain ⟨ca0,ca1,ca2,ca3,ca4,ca5⟩:=R6.out.ce;obtain ⟨cb0,cb1,cb2,cb3,cb4,cb5⟩:=R6.out.fr6)
      | (go_at_call 51;(with_reducible refine (KT.out _ R6.out.rq).mono ?_);rintro e w7 ⟨rfl,ht,hs⟩;have R7:=Lib.hid (R6.out.step ht hs);clear ht hs;obtain ⟨ca0,ca1,ca2,ca3,ca4,ca5⟩:=R7.out.ce;obtain ⟨cb0,cb1,cb2,cb3,cb4,cb5⟩:=R7.out.fr6;have hz0:=(R7.out.set 2 (.string TU)).ce0;obtain ⟨cz0,cz1,cz2,cz3,cz4,cz5⟩:=hz0;have hy0:=(R7.out.set 2 (.string TU)).fr0;obtain ⟨cy0,cy1,cy2,cy3,cy4,cy5⟩:=hy0))
     refine bodyPost_ret (res25 rfl (st6_any (R7.out.set 2 _).b0 _ _ _ _ _ _)) rfl ?_
     rw [HTT.out,HTU.out,←HK2.out]
     refine (R7.out.set 2 _).end_ 2 T T2 (plus_to (d:=2) ?_)
     have hr:=HRR.out
     have:=HK2.out
     have:=HK3.out
     have:=HK4.out
     have:=HK5.out
     generalize piP (xs.drop k2)=RR at hr ⊢
     rcases RR with x | ⟨t,mm⟩
     ·exact hr
     ·exact ⟨hr.1,by have:=hr.2.1;omega,hr.2.2⟩
    ·have hbI:((b:Int) == 0)=false:=beq_eq_false_iff_ne.2 (by omega)
     have hbI2:¬(b:Int)=0:=by omega
     obtain rfl:e3=e9:=by rw [he3,if_neg (fun e=>hb0 e.1)]
     clear h hy hyl hk2 hd hU he9 hwb hTT hk3 hx hTL hq hk4 hk5 hTU hU2 he3 hb
     go_wp2_with (first
      | (go_at_call 46;(with_reducible refine (Y.out _ R0.out.rq).mono ?_);rintro e w1 ⟨rfl,ht,hs⟩;have R1:=Lib.hid (R0.out.step ht hs);clear ht hs;obtain ⟨ca0,ca1,ca2,ca3,ca4,ca5⟩:=R1.out.ce;obtain ⟨cb0,cb1,cb2,cb3,cb4,cb5⟩:=R1.out.fr6)
      | (go_at_call 47;(with_reducible refine (KU.out _ (R1.out.set 0 (.int .i64 2)).rq).mono ?_);rintro e w2 ⟨rfl,ht,hs⟩;have R2:=Lib.hid ((R1.out.set 0 (.int .i64 2)).step ht hs);clear ht hs;obtain ⟨ca0,ca1,ca2,ca3,ca4,ca5⟩:=R2.out.ce;obtain ⟨cb0,cb1,cb2,cb3,cb4,cb5⟩:=R2.out.fr6)
      | (go_at_call 48;(with_reducible refine (KS.out _).mono ?_);rintro e w3 ⟨rfl,hb⟩;have R3:=Lib.hid ((R2.out.set 1 (.string TT)).below hb);clear hb;obtain ⟨ca0,ca1,ca2,ca3,ca4,ca5⟩:=R3.out.ce;obtain ⟨cb0,cb1,cb2,cb3,cb4,cb5⟩:=R3.out.fr6)
      | (go_at_call 46;(with_reducible refine (KH.out _ R3.out.rq).mono ?_);rintro e w4 ⟨rfl,ht,hs⟩;have R4:=Lib.hid (R3.out.step ht hs);clear ht hs;obtain ⟨ca0,ca1,ca2,ca3,ca4,ca5⟩:=R4.out.ce;obtain ⟨cb0,cb1,cb2,cb3,cb4,cb5⟩:=R4.out.fr6)
      | (go_at_call 50;(with_reducible refine (KB.out _ R4.out.rq).mono ?_);rintro e w5 ⟨rfl,ht,hs⟩;have R5:=Lib.hid (R4.out.step ht hs);clear ht hs;obtain ⟨ca0,ca1,ca2,ca3,ca4,ca5⟩:=R5.out.ce;obtain ⟨cb0,cb1,cb2,cb3,cb4,cb5⟩:=R5.out.fr6)
      | (go_at_call 51;(with_reducible refine (KT.out _ R5.out.rq).mono ?_);rintro e w6 ⟨rfl,ht,hs⟩;have R6:=Lib.hid (R5.out.step ht hs);clear ht hs;obtain ⟨ca0,ca1,ca2,ca3,ca4,ca5⟩:=R6.out.ce;obtain ⟨cb0,cb1,cb2,cb3,cb4,cb5⟩:=R6.out.fr6;have hz0:=(R6.out.set 2 (.string TU)).ce0;obtain ⟨cz0,cz1,cz2,cz3,cz4,cz5⟩:=hz0;have hy0:=(R6.out.set 2 (.string TU)).fr0;obtain ⟨cy0,cy1,cy2,cy3,cy4,cy5⟩:=hy0))
     refine bodyPost_ret (res25 rfl (st6_any (R6.out.set 2 _).b0 _ _ _ _ _ _)) rfl ?_
     rw [HTT.out,HTU.out,←HK2.out]
     refine (R6.out.set 2 _).end_ 2 T T2 (plus_to (d:=2) ?_)
     have hr:=HRR.out
     have:=HK2.out
     have:=HK3.out
     have:=HK4.out
     have:=HK5.out
     generalize piP (xs.drop k2)=RR at hr ⊢
     rcases RR with x | ⟨t,mm⟩
     ·exact hr
     ·exact ⟨hr.1,by have:=hr.2.1;omega,hr.2.2⟩
set_option maxHeartbeats 12800000 in
theorem rtoken_5 (w:World) (p:Nat) (xs:List Nat) (k fr pl:Nat) (h:Rp w p xs k fr 0 pl) (hd:¬isDc (k == 0) (xs.drop k)) (h0:¬[60,63] <+: xs.drop k) (h1:¬[60,33,45,45] <+: xs.drop k) (h2:¬[60,33,91,67,68,65,84,65,91] <+: xs.drop k) (h3:¬[60,33] <+: xs.drop k) (h4:¬[60,47] <+: xs.drop k) (hy:[60] <+: xs.drop k) :
  Calls Tryz.prog 25 #[.pointer (some ⟨p,0,none⟩)] w (RkTo p xs k (plus 1 (bgP ((xs.drop k).drop 1))) w):=by
 rw [List.drop_drop]
 have HBS:=Lib.hid h.bs
 have hlen:=h.len
 have hkl:=h.le
 have RB:=Lib.hid (Rr.begin h)
 obtain ⟨S,hS⟩:∃ S,S=txt xs:=⟨_,rfl⟩
 have HSS:=Lib.hid hS
 have hSz:S.size=xs.length:=by rw [hS];exact txt_size xs
 have HGET:Hid (∀ i (h:i<S.size),((S[i]'h).toNat)=xs.getD i 0):=Lib.hid fun i h=>by subst hS;exact txt_get xs HBS.out i _
 have HEX:=Lib.hid fun i j=>txt_extract xs i j
 rw [←hS] at HEX
 have KBL:=Lib.hid fun (v:Nat) W=>rBlank_any (v:Int) W
 obtain ⟨DC,hDC⟩:∃ DC,DC=decide (isDc (k == 0) (xs.drop k)):=⟨_,rfl⟩
 have HDC:=Lib.hid hDC
 have hA:=h.below (lit_below w (.cells z44 58))
 have a1:=hA.c1
 have a2:=hA.c2
 have g2:=hA.blk.free 2
 clear hS hDC hA
 go_enter Tryz.func25,Tryz.ntmps25
 go_upto_region 10 with fail
 refine gen_w0 fun W0 hW0=>?_
 have R0:Hid (Rr w W0 p xs k k 0 #[.int .i64 0,.string ⟨#[]⟩,.string ⟨#[]⟩,.slice none 0 0,.bool false,.int .i64 (k:Nat)]):=Lib.hid (by rw [hW0];exact RB.out)
 have c0:=R0.out.rq.c0
 rw [←HSS.out] at c0
 have c1:=R0.out.rq.c1
 clear hW0 RB a1 a2 g2
 go_cut [87] from 88 to 117 (fun s87 wx=>s87 = .bool DC∧wx=W0)
 case first=>
  by_cases hk:k=0
  ·subst hk
   have HD:Hid (DC=true↔5<xs.length∧[60,63,120,109,108] <+: xs∧blaP (xs.getD 5 0)=true):=Lib.hid (by rw [HDC.out,decide_eq_true_iff];exact isDc_is HBS.out)
   by_cases h5:5<xs.length
   ·have h5I:(5:Int)<S.size:=by rw [hSz];omega
    have hsl:∀ W,(Instr.slice 9 (.string S) none (some (.int .i64 5)) none).run Tryz.prog W = .ok (.string (S.extract 0 5)) W:=fun W=>by
     have h4:(5:Int)≤S.size:=by omega
     simp [go_sem,h4]
    have hpc:S.extract 0 5=txt (xs.take 5):=by rw [HEX.out];rfl
    by_cases hp:[60,63,120,109,108] <+: xs
    ·have ht5:xs.take 5=[60,63,120,109,108]:=(List.prefix_iff_eq_take.1 hp).symm
     have h5n:5<S.size:=by rw [hSz];exact h5
     obtain ⟨x,hx⟩:∃ x:UInt8,S[5]'h5n=x:=⟨_,rfl⟩
     have hxn:xs.getD 5 0=x.toNat:=by rw [←hx];exact (HGET.out 5 h5n).symm
     have hx256:=x.toNat_lt
     rw [hpc,ht5,show txt [60,63,120,109,108]=⟨#[60,63,120,109,108]⟩ from rfl] at hsl
     rw [hxn] at HD
     have KB2:=KBL.out x.toNat
     rw [show wth blankL (x.toNat:Int)=blaP x.toNat from rfl] at KB2
     obtain ⟨bb,hbb⟩:∃ b,b=blaP x.toNat:=⟨_,rfl⟩
     rw [←hbb] at KB2 HD
     have KB2:=Lib.hid KB2
     clear hbb hpc ht5 hxn
     go_wp2_with (go_at_call 44;(with_reducible refine (KB2.out _).mono ?_);rintro e w1 ⟨rfl,rfl⟩)
     go_meet
     case rel=>exact ⟨by
      have h1:=HD.out
      cases DC <;> cases bb <;> simp [h5,hp] at h1 ⊢,rfl⟩
    ·have hne:(S.extract 0 5).toList≠[60,63,120,109,108]:=by
      rw [hpc,txt_toList]
      intro e
      have:=u8L_inj (HBS.out.take 5) (bsl [60,63,120,109,108] rfl) e
      exact hp (List.prefix_iff_eq_take.2 this.symm)
     obtain ⟨PC,hPC⟩:∃ PC,PC=S.extract 0 5:=⟨_,rfl⟩
     rw [←hPC] at hsl hne
     have hne2:(PC.toList == [60,63,120,109,108])=false:=beq_eq_false_iff_ne.2 hne
     clear hpc hPC
     go_wp2
     go_meet
     case rel=>exact ⟨by
      have h1:=HD.out
      cases DC <;> simp [hp] at h1 ⊢,rfl⟩
   ·have h5I:¬(5:Int)<S.size:=by rw [hSz];omega
    go_wp2
    go_meet
    case rel=>exact ⟨by
     have h1:=HD.out
     cases DC <;> simp [h5] at h1 ⊢,rfl⟩
  ·have hkI:((k:Int) == 0)=false:=beq_eq_false_iff_ne.2 (by omega)
   have hkI2:¬(k:Int)=0:=by omega
   go_wp2
   go_meet
   case rel=>exact ⟨by
    have:DC=false:=by rw [HDC.out];exact decide_eq_false (fun e=>hk (by simpa using e.1))
    rw [this],rfl⟩
 case rest=>
  obtain ⟨rfl,hwc⟩:=hcut
  have hwc:=hwc.symm
  subst hwc
  obtain rfl:DC=false:=by rw [HDC.out];exact decide_eq_false hd
  clear c0 c1
  have hyl:=pre_le (by simp) hy
  obtain ⟨k2,hk2⟩:∃ k2,k2=k+1:=⟨_,rfl⟩
  have N0:Hid (∀ W,Rq W p xs k k 0→Calls Tryz.prog 46 #[.pointer (some ⟨p,0,none⟩),.string ⟨#[60,63]⟩] W (Rs p xs k (.bool false) k 0 W)):=Lib.hid fun W hW=>by
   have:=qhas W p xs k k 0 [60,63] ⟨#[60,63]⟩ rfl (bsl _ rfl) (by simp) hW
   rwa [if_neg (fun e=>h0 e.2),decide_eq_false (fun e=>h0 e.2)] at this
  have N1:Hid (∀ W,Rq W p xs k k 0→Calls Tryz.prog 46 #[.pointer (some ⟨p,0,none⟩),.string ⟨#[60,33,45,45]⟩] W (Rs p xs k (.bool false) k 0 W)):=Lib.hid fun W hW=>by
   have:=qhas W p xs k k 0 [60,33,45,45] ⟨#[60,33,45,45]⟩ rfl (bsl _ rfl) (by simp) hW
   rwa [if_neg (fun e=>h1 e.2),decide_eq_false (fun e=>h1 e.2)] at this
  have N2:Hid (∀ W,Rq W p xs k k 0→Calls Tryz.prog 46 #[.pointer (some ⟨p,0,none⟩),.string ⟨#[60,33,91,67,68,65,84,65,91]⟩] W (Rs p xs k (.bool false) k 0 W)):=Lib.hid fun W hW=>by
   have:=qhas W p xs k k 0 [60,33,91,67,68,65,84,65,91] ⟨#[60,33,91,67,68,65,84,65,91]⟩ rfl (bsl _ rfl) (by simp) hW
   rwa [if_neg (fun e=>h2 e.2),decide_eq_false (fun e=>h2 e.2)] at this
  have N3:Hid (∀ W,Rq W p xs k k 0→Calls Tryz.prog 46 #[.pointer (some ⟨p,0,none⟩),.string ⟨#[60,33]⟩] W (Rs p xs k (.bool false) k 0 W)):=Lib.hid fun W hW=>by
   have:=qhas W p xs k k 0 [60,33] ⟨#[60,33]⟩ rfl (bsl _ rfl) (by simp) hW
   rwa [if_neg (fun e=>h3 e.2),decide_eq_false (fun e=>h3 e.2)] at this
  have N4:Hid (∀ W,Rq W p xs k k 0→Calls Tryz.prog 46 #[.pointer (some ⟨p,0,none⟩),.string ⟨#[60,47]⟩] W (Rs p xs k (.bool false) k 0 W)):=Lib.hid fun W hW=>by
   have:=qhas W p xs k k 0 [60,47] ⟨#[60,47]⟩ rfl (bsl _ rfl) (by simp) hW
   rwa [if_neg (fun e=>h4 e.2),decide_eq_false (fun e=>h4 e.2)] at this
  have Y:Hid (∀ W,Rq W p xs k k 0→Calls Tryz.prog 46 #[.pointer (some ⟨p,0,none⟩),.string ⟨#[60]⟩] W (Rs p xs k (.bool true) k2 0 W)):=Lib.hid fun W hW=>by
   have:=qhas W p xs k k 0 [60] ⟨#[60]⟩ rfl (bsl _ rfl) (by simp) hW
   rw [if_pos ⟨rfl,hy⟩,decide_eq_true (show 0=0∧[60] <+: xs.drop k from ⟨rfl,hy⟩)] at this
   rw [hk2];exact this
  have HK2:=Lib.hid hk2
  obtain ⟨⟨T,n,e1⟩,hU⟩:∃ x,x=nmR (xs.drop k2) 0:=⟨_,rfl⟩
  have HR:=Lib.hid (bg_R HBS.out hU.symm)
  have KU:Hid (∀ W,Rq W p xs k2 k 0→Calls Tryz.prog 53 #[.pointer (some ⟨p,0,none⟩)] W (Rs p xs k (.string (txt T)) (k2+n) e1 W)):=Lib.hid fun W hW=>by
   have:=qname W p xs k2 k 0 hW
   rwa [←hU] at this
  obtain ⟨k3,hk3⟩:∃ k3,k3=k2+n:=⟨_,rfl⟩
  rw [←hk3] at KU HR
  have HK3:=Lib.hid hk3
  have KA:Hid (∀ W,Rq W p xs k3 k e1→Calls Tryz.prog 54 #[.pointer (some ⟨p,0,none⟩)] W (RaTo p xs k3 k (arR (xs.drop k3) e1) W)):=Lib.hid fun W hW=>qattrs W p xs k3 k e1 hW
  obtain ⟨TT,hTT⟩:∃ TT,TT=txt T:=⟨_,rfl⟩
  rw [←hTT] at KU
  have HTT:=Lib.hid hTT
  obtain ⟨RA,hRA⟩:∃ RA,RA=arR (xs.drop k3) e1:=⟨_,rfl⟩
  rw [←hRA] at HR KA
  unfold RaTo at KA
  rcases hra:RA with x | ⟨l,m⟩
  ·rw [hra] at HR KA
   simp only at KA
   have KB:Hid (∀ W k4,x≠0→Rq W p xs k4 k x→Calls Tryz.prog 50 #[.pointer (some ⟨p,0,none⟩)] W (Rs p xs k (.int .i64 0) k4 x W)):=Lib.hid fun W k4 hx hW=>by
    have:=qblanks W p xs k4 k x hW
    rwa [if_neg hx] at this
   have KH:Hid (∀ W k4,x≠0→Rq W p xs k4 k x→Calls Tryz.prog 46 #[.pointer (some ⟨p,0,none⟩),.string ⟨#[47,62]⟩] W (Rs p xs k (.bool false) k4 x W)):=Lib.hid fun W k4 hx hW=>by
    have:=qhas W p xs k4 k x [47,62] ⟨#[47,62]⟩ rfl (bsl _ rfl) (by simp) hW
    rwa [if_neg (fun e=>hx e.1),decide_eq_false (fun e=>hx e.1)] at this
   have KN:Hid (∀ W k4,x≠0→Rq W p xs k4 k x→Calls Tryz.prog 52 #[.pointer (some ⟨p,0,none⟩),.string ⟨#[62]⟩] W (Rs p xs k (.tuple #[]) k4 x W)):=Lib.hid fun W k4 hx hW=>by
    have:=qneed W p xs k4 k x [62] ⟨#[62]⟩ rfl (bsl _ rfl) (by simp) hW
    rwa [if_neg (fun e=>hx e.1),if_neg (fun e=>hx e.1)] at this
   clear h hy hyl hk2 hd hU hTT hk3 hRA hra h0 h1 h2 h3 h4
   go_wp2_with (first
    | (go_at_call 46;(with_reducible refine (N0.out _ R0.out.rq).mono ?_);rintro e w1 ⟨rfl,ht,hs⟩;have R1:=Lib.hid (R0.out.step ht hs);clear ht hs;obtain ⟨ca0,ca1,ca2,ca3,ca4,ca5⟩:=R1.out.ce;obtain ⟨cb0,cb1,cb2,cb3,cb4,cb5⟩:=R1.out.fr6)
    | (go_at_call 46;(with_reducible refine (N1.out _ R1.out.rq).mono ?_);rintro e w2 ⟨rfl,ht,hs⟩;have R2:=Lib.hid (R1.out.step ht hs);clear ht hs;obtain ⟨ca0,ca1,ca2,ca3,ca4,ca5⟩:=R2.out.ce;obtain ⟨cb0,cb1,cb2,cb3,cb4,cb5⟩:=R2.out.fr6)
    | (go_at_call 46;(with_reducible refine (N2.out _ R2.out.rq).mono ?_);rintro e w3 ⟨rfl,ht,hs⟩;have R3:=Lib.hid (R2.out.step ht hs);clear ht hs;obtain ⟨ca0,ca1,ca2,ca3,ca4,ca5⟩:=R3.out.ce;obtain ⟨cb0,cb1,cb2,cb3,cb4,cb5⟩:=R3.out.fr6)
    | (go_at_call 46;(with_reducible refine (N3.out _ R3.out.rq).mono ?_);rintro e w4 ⟨rfl,ht,hs⟩;have R4:=Lib.hid (R3.out.step ht hs);clear ht hs;obtain ⟨ca0,ca1,ca2,ca3,ca4,ca5⟩:=R4.out.ce;obtain ⟨cb0,cb1,cb2,cb3,cb4,cb5⟩:=R4.out.fr6)
    | (go_at_call 46;(with_reducible refine (N4.out _ R4.out.rq).mono ?_);rintro e w5 ⟨rfl,ht,hs⟩;have R5:=Lib.hid (R4.out.step ht hs);clear ht hs;obtain ⟨ca0,ca1,ca2,ca3,ca4,ca5⟩:=R5.out.ce;obtain ⟨cb0,cb1,cb2,cb3,cb4,cb5⟩:=R5.out.fr6)
    | (go_at_call 46;(with_reducible refine (Y.out _ R5.out.rq).mono ?_);rintro e w6 ⟨rfl,ht,hs⟩;have R6:=Lib.hid (R5.out.step ht hs);clear ht hs;obtain ⟨ca0,ca1,ca2,ca3,ca4,ca5⟩:=R6.out.ce;obtain ⟨cb0,cb1,cb2,cb3,cb4,cb5⟩:=R6.out.fr6)
    | (go_at_call 53;(with_reducible refine (KU.out _ (R6.out.set 0 (.int .i64 5)).rq).mono ?_);rintro e w7 ⟨rfl,ht,hs⟩;have R7:=Lib.hid ((R6.out.set 0 (.int .i64 5)).step ht hs);clear ht hs;obtain ⟨ca0,ca1,ca2,ca3,ca4,ca5⟩:=R7.out.ce;obtain ⟨cb0,cb1,cb2,cb3,cb4,cb5⟩:=R7.out.fr6)
    | (go_at_call 54;(with_reducible refine (KA.out _ (R7.out.set 1 (.string TT)).rq).mono ?_);rintro e w8 ⟨ht,⟨sa,sn,sc,rfl⟩,hx0,k4,hs⟩;have R8:=Lib.hid ((R7.out.set 1 (.string TT)).step ht hs);clear ht hs;obtain ⟨ca0,ca1,ca2,ca3,ca4,ca5⟩:=R8.out.ce;obtain ⟨cb0,cb1,cb2,cb3,cb4,cb5⟩:=R8.out.fr6;have HX0:=Lib.hid hx0;clear hx0)
    | (go_at_call 50;(with_reducible refine (KB.out _ _ HX0.out (R8.out.set 3 (.slice sa sn sc)).rq).mono ?_);rintro e w9 ⟨rfl,ht,hs⟩;have R9:=Lib.hid ((R8.out.set 3 (.slice sa sn sc)).step ht hs);clear ht hs;obtain ⟨ca0,ca1,ca2,ca3,ca4,ca5⟩:=R9.out.ce;obtain ⟨cb0,cb1,cb2,cb3,cb4,cb5⟩:=R9.out.fr6)
    | (go_at_call 46;(with_reducible refine (KH.out _ _ HX0.out R9.out.rq).mono ?_);rintro e w10 ⟨rfl,ht,hs⟩;have R10:=Lib.hid (R9.out.step ht hs);clear ht hs;obtain ⟨ca0,ca1,ca2,ca3,ca4,ca5⟩:=R10.out.ce;obtain ⟨cb0,cb1,cb2,cb3,cb4,cb5⟩:=R10.out.fr6)
    | (go_at_call 52;(with_reducible refine (KN.out _ _ HX0.out (R10.out.set 4 (.bool false)).rq).mono ?_);rintro e w11 ⟨rfl,ht,hs⟩;have R11:=Lib.hid ((R10.out.set 4 (.bool false)).step ht hs);clear ht hs;obtain ⟨ca0,ca1,ca2,ca3,ca4,ca5⟩:=R11.out.ce;obtain ⟨cb0,cb1,cb2,cb3,cb4,cb5⟩:=R11.out.fr6;have hz0:=R11.out.ce0;obtain ⟨cz0,cz1,cz2,cz3,cz4,cz5⟩:=hz0;have hy0:=R11.out.fr0;obtain ⟨cy0,cy1,cy2,cy3,cy4,cy5⟩:=hy0))
   refine bodyPost_ret (res25 rfl (st6_any R11.out.b0 _ _ _ _ _ _)) rfl ?_
   rw [←HK2.out,show bgP (xs.drop k2) = .error x from HR.out]
   exact R11.out.no HX0.out
  ·rw [hra] at HR KA
   simp only at KA
   obtain ⟨e1z,hR2⟩:=HR.out
   subst e1z
   obtain ⟨kb,hkb⟩:∃ kb,kb=dR xs (k3+m) 0:=⟨_,rfl⟩
   have HR3:=Lib.hid (hR2 kb hkb)
   have KB:Hid (∀ W,Rq W p xs (k3+m) k 0→Calls Tryz.prog 50 #[.pointer (some ⟨p,0,none⟩)] W (Rs p xs k (.int .i64 (bV xs (k3+m) 0:Nat)) kb 0 W)):=Lib.hid fun W hW=>by
    have:=qblanks W p xs (k3+m) k 0 hW
    rw [hkb];exact this
   generalize bV xs (k3+m) 0=bv at KB
   by_cases h47:[47,62] <+: xs.drop kb
   ·obtain ⟨k5,hk5⟩:∃ k5,k5=kb+2:=⟨_,rfl⟩
    have KH:Hid (∀ W,Rq W p xs kb k 0→Calls Tryz.prog 46 #[.pointer (some ⟨p,0,none⟩),.string ⟨#[47,62]⟩] W (Rs p xs k (.bool true) k5 0 W)):=Lib.hid fun W hW=>by
     have:=qhas W p xs kb k 0 [47,62] ⟨#[47,62]⟩ rfl (bsl _ rfl) (by simp) hW
     rw [if_pos ⟨rfl,h47⟩,decide_eq_true (show 0=0∧[47,62] <+: xs.drop kb from ⟨rfl,h47⟩)] at this
     rw [hk5];exact this
    have HK5:=Lib.hid hk5
    have HP:=Lib.hid (HR3.out.2.1 h47)
    have HGE:=Lib.hid HR3.out.1
    obtain ⟨N,hN⟩:∃ N,N=l.length:=⟨_,rfl⟩
    have HN:=Lib.hid hN
    rw [←hN] at KA
    clear h hy hyl hk2 hd hU hTT hk3 hRA hra h0 h1 h2 h3 h4 hR2 hkb hk5 h47 hN
    have RB0:=Lib.hid R0.out.lt
    go_wp2_with (first
     | (go_at_call 46;(with_reducible refine (N0.out _ R0.out.rq).mono ?_);rintro e w1 ⟨rfl,ht,hs⟩;have R1:=Lib.hid (R0.out.step ht hs);clear ht hs;obtain ⟨ca0,ca1,ca2,ca3,ca4,ca5⟩:=R1.out.ce;obtain ⟨cb0,cb1,cb2,cb3,cb4,cb5⟩:=R1.out.fr6)
     | (go_at_call 46;(with_reducible refine (N1.out _ R1.out.rq).mono ?_);rintro e w2 ⟨rfl,ht,hs⟩;have R2:=Lib.hid (R1.out.step ht hs);clear ht hs;obtain ⟨ca0,ca1,ca2,ca3,ca4,ca5⟩:=R2.out.ce;obtain ⟨cb0,cb1,cb2,cb3,cb4,cb5⟩:=R2.out.fr6)
     | (go_at_call 46;(with_reducible refine (N2.out _ R2.out.rq).mono ?_);rintro e w3 ⟨rfl,ht,hs⟩;have R3:=Lib.hid (R2.out.step ht hs);clear ht hs;obtain ⟨ca0,ca1,ca2,ca3,ca4,ca5⟩:=R3.out.ce;obtain ⟨cb0,cb1,cb2,cb3,cb4,cb5⟩:=R3.out.fr6)
     | (go_at_call 46;(with_reducible refine (N3.out _ R3.out.rq).mono ?_);rintro e w4 ⟨rfl,ht,hs⟩;have R4:=Lib.hid (R3.out.step ht hs);clear ht hs;obtain ⟨ca0,ca1,ca2,ca3,ca4,ca5⟩:=R4.out.ce;obtain ⟨cb0,cb1,cb2,cb3,cb4,cb5⟩:=R4.out.fr6)
     | (go_at_call 46;(with_reducible refine (N4.out _ R4.out.rq).mono ?_);rintro e w5 ⟨rfl,ht,hs⟩;have R5:=Lib.hid (R4.out.step ht hs);clear ht hs;obtain ⟨ca0,ca1,ca2,ca3,ca4,ca5⟩:=R5.out.ce;obtain ⟨cb0,cb1,cb2,cb3,cb4,cb5⟩:=R5.out.fr6)
     | (go_at_call 46;(with_reducible refine (Y.out _ R5.out.rq).mono ?_);rintro e w6 ⟨rfl,ht,hs⟩;have R6:=Lib.hid (R5.out.step ht hs);clear ht hs;obtain ⟨ca0,ca1,ca2,ca3,ca4,ca5⟩:=R6.out.ce;obtain ⟨cb0,cb1,cb2,cb3,cb4,cb5⟩:=R6.out.fr6)
     | (go_at_call 53;(with_reducible refine (KU.out _ (R6.out.set 0 (.int .i64 5)).rq).mono ?_);rintro e w7 ⟨rfl,ht,hs⟩;have R7:=Lib.hid ((R6.out.set 0 (.int .i64 5)).step ht hs);clear ht hs;obtain ⟨ca0,ca1,ca2,ca3,ca4,ca5⟩:=R7.out.ce;obtain ⟨cb0,cb1,cb2,cb3,cb4,cb5⟩:=R7.out.fr6)
     | (go_at_call 54;(with_reducible refine (KA.out _ (R7.out.set 1 (.string TT)).rq).mono ?_);rintro e w8 ⟨ht,sa,sc,rfl,hown,hs,hbs,hl⟩;have R8:=Lib.hid ((R7.out.set 1 (.string TT)).step ht hs);clear ht hs;obtain ⟨ca0,ca1,ca2,ca3,ca4,ca5⟩:=R8.out.ce;obtain ⟨cb0,cb1,cb2,cb3,cb4,cb5⟩:=R8.out.fr6;have HA8:=Lib.hid (show RAtV w8 (w.heap.size+1+1) (.slice sa N sc) l from ⟨sa,sc,by rw [←HN.out],by rw [←HN.out];exact World.ownsRow.mono hown (by have:=(R7.out.set 1 (.string TT)).b1.lt;omega)⟩);clear hown hbs)
     | (go_at_call 50;(with_reducible refine (KB.out _ (R8.out.set 3 (.slice sa N sc)).rq).mono ?_);rintro e w9 ⟨rfl,ht,hs⟩;have R9:=Lib.hid ((R8.out.set 3 (.slice sa N sc)).step ht hs);have HA9:=Lib.hid ((HA8.out.touch (touch_set (w.heap.size+1) _ _ _) (fun i hi=>by omega)).touch ht (fun i hi=>by have:=RB0.out;omega));clear ht hs;obtain ⟨ca0,ca1,ca2,ca3,ca4,ca5⟩:=R9.out.ce;obtain ⟨cb0,cb1,cb2,cb3,cb4,cb5⟩:=R9.out.fr6)
     | (go_at_call 46;(with_reducible refine (KH.out _ R9.out.rq).mono ?_);rintro e w10 ⟨rfl,ht,hs⟩;have R10:=Lib.hid (R9.out.step ht hs);have HA10:=Lib.hid (HA9.out.touch ht (fun i hi=>by have:=RB0.out;omega));clear ht hs;obtain ⟨ca0,ca1,ca2,ca3,ca4,ca5⟩:=R10.out.ce;obtain ⟨cb0,cb1,cb2,cb3,cb4,cb5⟩:=R10.out.fr6;have hz0:=(R10.out.set 4 (.bool true)).ce0;obtain ⟨cz0,cz1,cz2,cz3,cz4,cz5⟩:=hz0;have hy0:=(R10.out.set 4 (.bool true)).fr0;obtain ⟨cy0,cy1,cy2,cy3,cy4,cy5⟩:=hy0))
    refine bodyPost_ret (res25 rfl (st6_any (R10.out.set 4 _).b0 _ _ _ _ _ _)) rfl ?_
    rw [HTT.out,←HK2.out,show bgP (xs.drop k2)=_ from HP.out]
    have:=HK2.out
    have:=HK3.out
    have:=HK5.out
    have:=HGE.out
    exact (R10.out.set 4 _).yes ⟨5,T,[],l,true⟩ _ (.slice sa N sc) (by omega) ((HA10.out.touch (touch_set (w.heap.size+1) _ _ _) (fun i hi=>by omega)).mono (Nat.le_succ _)) (by rw [←HN.out];exact hl)
   ·have KH:Hid (∀ W,Rq W p xs kb k 0→Calls Tryz.prog 46 #[.pointer (some ⟨p,0,none⟩),.string ⟨#[47,62]⟩] W (Rs p xs k (.bool false) kb 0 W)):=Lib.hid fun W hW=>by
     have:=qhas W p xs kb k 0 [47,62] ⟨#[47,62]⟩ rfl (bsl _ rfl) (by simp) hW
     rwa [if_neg (fun e=>h47 e.2),decide_eq_false (fun e=>h47 e.2)] at this
    have KN:Hid (∀ W,Rq W p xs kb k 0→Calls Tryz.prog 52 #[.pointer (some ⟨p,0,none⟩),.string ⟨#[62]⟩] W (Rs p xs k (.tuple #[]) (nK 62 xs kb 0) (nE 62 xs kb 0) W)):=Lib.hid fun W hW=>qneed W p xs kb k 0 [62] ⟨#[62]⟩ rfl (bsl _ rfl) (by simp) hW
    have HGE:=Lib.hid HR3.out.1
    have HP:Hid ((nE 62 xs kb 0=0∧nK 62 xs kb 0=kb+1∧bgP (xs.drop k2) = .ok (⟨5,T,[],l,false⟩,kb+1-k2))∨(nE 62 xs kb 0=22∧bgP (xs.drop k2) = .error 22)):=Lib.hid (by
     by_cases h62:[62] <+: xs.drop kb
     ·exact .inl ⟨nE_y h62,nK_y h62,HR3.out.2.2.1 h47 h62⟩
     ·exact .inr ⟨nE_n h62,HR3.out.2.2.2 h47 h62⟩)
    generalize nK 62 xs kb 0=k5 at KN HP
    generalize nE 62 xs kb 0=e5 at KN HP
    obtain ⟨N,hN⟩:∃ N,N=l.length:=⟨_,rfl⟩
    have HN:=Lib.hid hN
    rw [←hN] at KA
    clear h hy hyl hk2 hd hU hTT hk3 hRA hra h0 h1 h2 h3 h4 hR2 hkb h47 hN
    have RB0:=Lib.hid R0.out.lt
    go_wp2_with (first
     | (go_at_call 46;(with_reducible refine (N0.out _ R0.out.rq).mono ?_);rintro e w1 ⟨rfl,ht,hs⟩;have R1:=Lib.hid (R0.out.step ht hs);clear ht hs;obtain ⟨ca0,ca1,ca2,ca3,ca4,ca5⟩:=R1.out.ce;obtain ⟨cb0,cb1,cb2,cb3,cb4,cb5⟩:=R1.out.fr6)
     | (go_at_call 46;(with_reducible refine (N1.out _ R1.out.rq).mono ?_);rintro e w2 ⟨rfl,ht,hs⟩;have R2:=Lib.hid (R1.out.step ht hs);clear ht hs;obtain ⟨ca0,ca1,ca2,ca3,ca4,ca5⟩:=R2.out.ce;obtain ⟨cb0,cb1,cb2,cb3,cb4,cb5⟩:=R2.out.fr6)
     | (go_at_call 46;(with_reducible refine (N2.out _ R2.out.rq).mono ?_);rintro e w3 ⟨rfl,ht,hs⟩;have R3:=Lib.hid (R2.out.step ht hs);clear ht hs;obtain ⟨ca0,ca1,ca2,ca3,ca4,ca5⟩:=R3.out.ce;obtain ⟨cb0,cb1,cb2,cb3,cb4,cb5⟩:=R3.out.fr6)
     | (go_at_call 46;(with_reducible refine (N3.out _ R3.out.rq).mono ?_);rintro e w4 ⟨rfl,ht,hs⟩;have R4:=Lib.hid (R3.out.step ht hs);clear ht hs;obtain ⟨ca0,ca1,ca2,ca3,ca4,ca5⟩:=R4.out.ce;obtain ⟨cb0,cb1,cb2,cb3,cb4,cb5⟩:=R4.out.fr6)
     | (go_at_call 46;(with_reducible refine (N4.out _ R4.out.rq).mono ?_);rintro e w5 ⟨rfl,ht,hs⟩;have R5:=Lib.hid (R4.out.step ht hs);clear ht hs;obtain ⟨ca0,ca1,ca2,ca3,ca4,ca5⟩:=R5.out.ce;obtain ⟨cb0,cb1,cb2,cb3,cb4,cb5⟩:=R5.out.fr6)
     | (go_at_call 46;(with_reducible refine (Y.out _ R5.out.rq).mono ?_);rintro e w6 ⟨rfl,ht,hs⟩;have R6:=Lib.hid (R5.out.step ht hs);clear ht hs;obtain ⟨ca0,ca1,ca2,ca3,ca4,ca5⟩:=R6.out.ce;obtain ⟨cb0,cb1,cb2,cb3,cb4,cb5⟩:=R6.out.fr6)
     | (go_at_call 53;(with_reducible refine (KU.out _ (R6.out.set 0 (.int .i64 5)).rq).mono ?_);rintro e w7 ⟨rfl,ht,hs⟩;have R7:=Lib.hid ((R6.out.set 0 (.int .i64 5)).step ht hs);clear ht hs;obtain ⟨ca0,ca1,ca2,ca3,ca4,ca5⟩:=R7.out.ce;obtain ⟨cb0,cb1,cb2,cb3,cb4,cb5⟩:=R7.out.fr6)
     | (go_at_call 54;(with_reducible refine (KA.out _ (R7.out.set 1 (.string TT)).rq).mono ?_);rintro e w8 ⟨ht,sa,sc,rfl,hown,hs,hbs,hl⟩;have R8:=Lib.hid ((R7.out.set 1 (.string TT)).step ht hs);clear ht hs;obtain ⟨ca0,ca1,ca2,ca3,ca4,ca5⟩:=R8.out.ce;obtain ⟨cb0,cb1,cb2,cb3,cb4,cb5⟩:=R8.out.fr6;have HA8:=Lib.hid (show RAtV w8 (w.heap.size+1+1) (.slice sa N sc) l from ⟨sa,sc,by rw [←HN.out],by rw [←HN.out];exact World.ownsRow.mono hown (by have:=(R7.out.set 1 (.string TT)).b1.lt;omega)⟩);clear hown hbs)
     | (go_at_call 50;(with_reducible refine (KB.out _ (R8.out.set 3 (.slice sa N sc)).rq).mono ?_);rintro e w9 ⟨rfl,ht,hs⟩;have R9:=Lib.hid ((R8.out.set 3 (.slice sa N sc)).step ht hs);have HA9:=Lib.hid ((HA8.out.touch (touch_set (w.heap.size+1) _ _ _) (fun i hi=>by omega)).touch ht (fun i hi=>by have:=RB0.out;omega));clear ht hs;obtain ⟨ca0,ca1,ca2,ca3,ca4,ca5⟩:=R9.out.ce;obtain ⟨cb0,cb1,cb2,cb3,cb4,cb5⟩:=R9.out.fr6)
     | (go_at_call 46;(with_reducible refine (KH.out _ R9.out.rq).mono ?_);rintro e w10 ⟨rfl,ht,hs⟩;have R10:=Lib.hid (R9.out.step ht hs);have HA10:=Lib.hid (HA9.out.touch ht (fun i hi=>by have:=RB0.out;omega));clear ht hs;obtain ⟨ca0,ca1,ca2,ca3,ca4,ca5⟩:=R10.out.ce;obtain ⟨cb0,cb1,cb2,cb3,cb4,cb5⟩:=R10.out.fr6)
     | (go_at_call 52;(with_reducible refine (KN.out _ (R10.out.set 4 (.bool false)).rq).mono ?_);rintro e w11 ⟨rfl,ht,hs⟩;have R11:=Lib.hid ((R10.out.set 4 (.bool false)).step ht hs);have HA11:=Lib.hid ((HA10.out.touch (touch_set (w.heap.size+1) _ _ _) (fun i hi=>by omega)).touch ht (fun i hi=>by have:=RB0.out;omega));clear ht hs;obtain ⟨ca0,ca1,ca2,ca3,ca4,ca5⟩:=R11.out.ce;obtain ⟨cb0,cb1,cb2,cb3,cb4,cb5⟩:=R11.out.fr6;have hz0:=R11.out.ce0;obtain ⟨cz0,cz1,cz2,cz3,cz4,cz5⟩:=hz0;have hy0:=R11.out.fr0;obtain ⟨cy0,cy1,cy2,cy3,cy4,cy5⟩:=hy0))
    refine bodyPost_ret (res25 rfl (st6_any R11.out.b0 _ _ _ _ _ _)) rfl ?_
    rcases HP.out with ⟨q1,q2,q3⟩ | ⟨q1,q3⟩
    ·rw [HTT.out,←HK2.out,q3]
     have hz:=R11.out
     rw [q1] at hz
     have:=HK2.out
     have:=HK3.out
     have:=HGE.out
     exact hz.yes ⟨5,T,[],l,false⟩ _ (.slice sa N sc) (by omega) (HA11.out.mono (Nat.le_succ _)) (by rw [←HN.out];exact hl)
    ·rw [←HK2.out,q3]
     have hz:=R11.out
     rw [q1] at hz
     exact hz.no (by decide)
set_option maxHeartbeats 12800000 in
theorem rtoken_6 (w:World) (p:Nat) (xs:List Nat) (k fr pl:Nat) (h:Rp w p xs k fr 0 pl) (hd:¬isDc (k == 0) (xs.drop k)) (h0:¬[60,63] <+: xs.drop k) (h1:¬[60,33,45,45] <+: xs.drop k) (h2:¬[60,33,91,67,68,65,84,65,91] <+: xs.drop k) (h3:¬[60,33] <+: xs.drop k) (h4:¬[60,47] <+: xs.drop k) (h5:¬[60] <+: xs.drop k) :
  Calls Tryz.prog 25 #[.pointer (some ⟨p,0,none⟩)] w (RkTo p xs k (wdP (xs.drop k)) w):=by
 have HBS:=Lib.hid h.bs
 have hlen:=h.len
 have hkl:=h.le
 have RB:=Lib.hid (Rr.begin h)
 obtain ⟨S,hS⟩:∃ S,S=txt xs:=⟨_,rfl⟩
 have HSS:=Lib.hid hS
 have hSz:S.size=xs.length:=by rw [hS];exact txt_size xs
 have HGET:Hid (∀ i (h:i<S.size),((S[i]'h).toNat)=xs.getD i 0):=Lib.hid fun i h=>by subst hS;exact txt_get xs HBS.out i _
 have HEX:=Lib.hid fun i j=>txt_extract xs i j
 rw [←hS] at HEX
 have KBL:=Lib.hid fun (v:Nat) W=>rBlank_any (v:Int) W
 obtain ⟨DC,hDC⟩:∃ DC,DC=decide (isDc (k == 0) (xs.drop k)):=⟨_,rfl⟩
 have HDC:=Lib.hid hDC
 have hA:=h.below (lit_below w (.cells z44 58))
 have a1:=hA.c1
 have a2:=hA.c2
 have g2:=hA.blk.free 2
 clear hS hDC hA
 go_enter Tryz.func25,Tryz.ntmps25
 go_upto_region 10 with fail
 refine gen_w0 fun W0 hW0=>?_
 have R0:Hid (Rr w W0 p xs k k 0 #[.int .i64 0,.string ⟨#[]⟩,.string ⟨#[]⟩,.slice none 0 0,.bool false,.int .i64 (k:Nat)]):=Lib.hid (by rw [hW0];exact RB.out)
 have c0:=R0.out.rq.c0
 rw [←HSS.out] at c0
 have c1:=R0.out.rq.c1
 clear hW0 RB a1 a2 g2
 go_cut [87] from 88 to 117 (fun s87 wx=>s87 = .bool DC∧wx=W0)
 case first=>
  by_cases hk:k=0
  ·subst hk
   have HD:Hid (DC=true↔5<xs.length∧[60,63,120,109,108] <+: xs∧blaP (xs.getD 5 0)=true):=Lib.hid (by rw [HDC.out,decide_eq_true_iff];exact isDc_is HBS.out)
   by_cases h5:5<xs.length
   ·have h5I:(5:Int)<S.size:=by rw [hSz];omega
    have hsl:∀ W,(Instr.slice 9 (.string S) none (some (.int .i64 5)) none).run Tryz.prog W = .ok (.string (S.extract 0 5)) W:=fun W=>by
     have h4:(5:Int)≤S.size:=by omega
     simp [go_sem,h4]
    have hpc:S.extract 0 5=txt (xs.take 5):=by rw [HEX.out];rfl
    by_cases hp:[60,63,120,109,108] <+: xs
    ·have ht5:xs.take 5=[60,63,120,109,108]:=(List.prefix_iff_eq_take.1 hp).symm
     have h5n:5<S.size:=by rw [hSz];exact h5
     obtain ⟨x,hx⟩:∃ x:UInt8,S[5]'h5n=x:=⟨_,rfl⟩
     have hxn:xs.getD 5 0=x.toNat:=by rw [←hx];exact (HGET.out 5 h5n).symm
     have hx256:=x.toNat_lt
     rw [hpc,ht5,show txt [60,63,120,109,108]=⟨#[60,63,120,109,108]⟩ from rfl] at hsl
     rw [hxn] at HD
     have KB2:=KBL.out x.toNat
     rw [show wth blankL (x.toNat:Int)=blaP x.toNat from rfl] at KB2
     obtain ⟨bb,hbb⟩:∃ b,b=blaP x.toNat:=⟨_,rfl⟩
     rw [←hbb] at KB2 HD
     have KB2:=Lib.hid KB2
     clear hbb hpc ht5 hxn
     go_wp2_with (go_at_call 44;(with_reducible refine (KB2.out _).mono ?_);rintro e w1 ⟨rfl,rfl⟩)
     go_meet
     case rel=>exact ⟨by
      have h1:=HD.out
      cases DC <;> cases bb <;> simp [h5,hp] at h1 ⊢,rfl⟩
    ·have hne:(S.extract 0 5).toList≠[60,63,120,109,108]:=by
      rw [hpc,txt_toList]
      intro e
      have:=u8L_inj (HBS.out.take 5) (bsl [60,63,120,109,108] rfl) e
      exact hp (List.prefix_iff_eq_take.2 this.symm)
     obtain ⟨PC,hPC⟩:∃ PC,PC=S.extract 0 5:=⟨_,rfl⟩
     rw [←hPC] at hsl hne
     have hne2:(PC.toList == [60,63,120,109,108])=false:=beq_eq_false_iff_ne.2 hne
     clear hpc hPC
     go_wp2
     go_meet
     case rel=>exact ⟨by
      have h1:=HD.out
      cases DC <;> simp [hp] at h1 ⊢,rfl⟩
   ·have h5I:¬(5:Int)<S.size:=by rw [hSz];omega
    go_wp2
    go_meet
    case rel=>exact ⟨by
     have h1:=HD.out
     cases DC <;> simp [h5] at h1 ⊢,rfl⟩
  ·have hkI:((k:Int) == 0)=false:=beq_eq_false_iff_ne.2 (by omega)
   have hkI2:¬(k:Int)=0:=by omega
   go_wp2
   go_meet
   case rel=>exact ⟨by
    have:DC=false:=by rw [HDC.out];exact decide_eq_false (fun e=>hk (by simpa using e.1))
    rw [this],rfl⟩
 case rest=>
  obtain ⟨rfl,hwc⟩:=hcut
  have hwc:=hwc.symm
  subst hwc
  obtain rfl:DC=false:=by rw [HDC.out];exact decide_eq_false hd
  clear c0 c1
  have N0:Hid (∀ W,Rq W p xs k k 0→Calls Tryz.prog 46 #[.pointer (some ⟨p,0,none⟩),.string ⟨#[60,63]⟩] W (Rs p xs k (.bool false) k 0 W)):=Lib.hid fun W hW=>by
   have:=qhas W p xs k k 0 [60,63] ⟨#[60,63]⟩ rfl (bsl _ rfl) (by simp) hW
   rwa [if_neg (fun e=>h0 e.2),decide_eq_false (fun e=>h0 e.2)] at this
  have N1:Hid (∀ W,Rq W p xs k k 0→Calls Tryz.prog 46 #[.pointer (some ⟨p,0,none⟩),.string ⟨#[60,33,45,45]⟩] W (Rs p xs k (.bool false) k 0 W)):=Lib.hid fun W hW=>by
   have:=qhas W p xs k k 0 [60,33,45,45] ⟨#[60,33,45,45]⟩ rfl (bsl _ rfl) (by simp) hW
   rwa [if_neg (fun e=>h1 e.2),decide_eq_false (fun e=>h1 e.2)] at this
  have N2:Hid (∀ W,Rq W p xs k k 0→Calls Tryz.prog 46 #[.pointer (some ⟨p,0,none⟩),.string ⟨#[60,33,91,67,68,65,84,65,91]⟩] W (Rs p xs k (.bool false) k 0 W)):=Lib.hid fun W hW=>by
   have:=qhas W p xs k k 0 [60,33,91,67,68,65,84,65,91] ⟨#[60,33,91,67,68,65,84,65,91]⟩ rfl (bsl _ rfl) (by simp) hW
   rwa [if_neg (fun e=>h2 e.2),decide_eq_false (fun e=>h2 e.2)] at this
  have N3:Hid (∀ W,Rq W p xs k k 0→Calls Tryz.prog 46 #[.pointer (some ⟨p,0,none⟩),.string ⟨#[60,33]⟩] W (Rs p xs k (.bool false) k 0 W)):=Lib.hid fun W hW=>by
   have:=qhas W p xs k k 0 [60,33] ⟨#[60,33]⟩ rfl (bsl _ rfl) (by simp) hW
   rwa [if_neg (fun e=>h3 e.2),decide_eq_false (fun e=>h3 e.2)] at this
  have N4:Hid (∀ W,Rq W p xs k k 0→Calls Tryz.prog 46 #[.pointer (some ⟨p,0,none⟩),.string ⟨#[60,47]⟩] W (Rs p xs k (.bool false) k 0 W)):=Lib.hid fun W hW=>by
   have:=qhas W p xs k k 0 [60,47] ⟨#[60,47]⟩ rfl (bsl _ rfl) (by simp) hW
   rwa [if_neg (fun e=>h4 e.2),decide_eq_false (fun e=>h4 e.2)] at this
  have N5:Hid (∀ W,Rq W p xs k k 0→Calls Tryz.prog 46 #[.pointer (some ⟨p,0,none⟩),.string ⟨#[60]⟩] W (Rs p xs k (.bool false) k 0 W)):=Lib.hid fun W hW=>by
   have:=qhas W p xs k k 0 [60] ⟨#[60]⟩ rfl (bsl _ rfl) (by simp) hW
   rwa [if_neg (fun e=>h5 e.2),decide_eq_false (fun e=>h5 e.2)] at this
  have HWI:Hid (∀ j,k≤j→j<k+wdN (xs.drop k)→j<xs.length∧xs.getD j 0≠60):=Lib.hid fun j h1 h2=>wdN_in h1 h2
  have HWE:Hid (k+wdN (xs.drop k)<xs.length→xs.getD (k+wdN (xs.drop k)) 0=60):=Lib.hid wdN_end
  have HWD:=Lib.hid (wd_R (xs.drop k))
  have hNle:=wdN_le (xs.drop k)
  rw [List.length_drop] at hNle
  obtain ⟨N,hN⟩:∃ N,N=wdN (xs.drop k):=⟨_,rfl⟩
  rw [←hN] at HWI HWE HWD hNle
  clear h h0 h1 h2 h3 h4 h5 hd hN
  obtain ⟨P,hP⟩:∃ P,P=(xs.drop k).take N:=⟨_,rfl⟩
  rw [←hP] at HWD
  have hPl:P.length≤1000000:=by rw [hP,List.length_take,List.length_drop];omega
  have hPb:Bs P:=by rw [hP];exact (HBS.out.drop k).take N
  have KT:=Lib.hid fun W=>rtold_any P _ rfl hPb false W hPl
  have KI:Hid (∀ W,Calls Tryz.prog 17 #[.string (txt P),.string ⟨#[93,93,62]⟩] W fun e w'=>e = .returned (.bool (ix [93,93,62] P).isSome)∧w'=W):=Lib.hid fun W=>inside_any P [93,93,62] _ _ rfl rfl hPb (bsl _ rfl) hPl (by decide) (by decide) W
  obtain ⟨TP,hTP⟩:∃ TP,TP=txt P:=⟨_,rfl⟩
  have hsl:∀ W,(Instr.slice 9 (.string S) (some (.int .i64 (k:Nat))) (some (.int .i64 ((k+N:Nat):Int))) none).run Tryz.prog W = .ok (.string TP) W:=by
   have:=slice_to S xs.length k (k+N) hSz (by omega) (by omega)
   rw [HEX.out,show k+N-k=N by omega,←hP,←hTP] at this
   exact this
  rw [←hTP] at KT KI
  clear hP hPb hPl hTP HEX
  obtain ⟨kN,hkN⟩:∃ kN,kN=k+N:=⟨_,rfl⟩
  rw [←hkN] at HWI HWE hsl
  have HKN:=Lib.hid hkN
  have HSL:=Lib.hid hsl
  have hkle:k≤kN:=by omega
  have hknl:kN≤xs.length:=by omega
  clear hkN hNle hsl
  go_wp2_with (first
   | (go_at_call 46;(with_reducible refine (N0.out _ R0.out.rq).mono ?_);rintro e w1 ⟨rfl,ht,hs⟩;have R1:=Lib.hid (R0.out.step ht hs);clear ht hs;obtain ⟨ca0,ca1,ca2,ca3,ca4,ca5⟩:=R1.out.ce;obtain ⟨cb0,cb1,cb2,cb3,cb4,cb5⟩:=R1.out.fr6)
   | (go_at_call 46;(with_reducible refine (N1.out _ R1.out.rq).mono ?_);rintro e w2 ⟨rfl,ht,hs⟩;have R2:=Lib.hid (R1.out.step ht hs);clear ht hs;obtain ⟨ca0,ca1,ca2,ca3,ca4,ca5⟩:=R2.out.ce;obtain ⟨cb0,cb1,cb2,cb3,cb4,cb5⟩:=R2.out.fr6)
   | (go_at_call 46;(with_reducible refine (N2.out _ R2.out.rq).mono ?_);rintro e w3 ⟨rfl,ht,hs⟩;have R3:=Lib.hid (R2.out.step ht hs);clear ht hs;obtain ⟨ca0,ca1,ca2,ca3,ca4,ca5⟩:=R3.out.ce;obtain ⟨cb0,cb1,cb2,cb3,cb4,cb5⟩:=R3.out.fr6)
   | (go_at_call 46;(with_reducible refine (N3.out _ R3.out.rq).mono ?_);rintro e w4 ⟨rfl,ht,hs⟩;have R4:=Lib.hid (R3.out.step ht hs);clear ht hs;obtain ⟨ca0,ca1,ca2,ca3,ca4,ca5⟩:=R4.out.ce;obtain ⟨cb0,cb1,cb2,cb3,cb4,cb5⟩:=R4.out.fr6)
   | (go_at_call 46;(with_reducible refine (N4.out _ R4.out.rq).mono ?_);rintro e w5 ⟨rfl,ht,hs⟩;have R5:=Lib.hid (R4.out.step ht hs);clear ht hs;obtain ⟨ca0,ca1,ca2,ca3,ca4,ca5⟩:=R5.out.ce;obtain ⟨cb0,cb1,cb2,cb3,cb4,cb5⟩:=R5.out.fr6)
   | (go_at_call 46;(with_reducible refine (N5.out _ R5.out.rq).mono ?_);rintro e w6 ⟨rfl,ht,hs⟩;have R6:=Lib.hid (R5.out.step ht hs);clear ht hs;obtain ⟨ca0,ca1,ca2,ca3,ca4,ca5⟩:=R6.out.ce;obtain ⟨cb0,cb1,cb2,cb3,cb4,cb5⟩:=R6.out.fr6))
  obtain ⟨wl,hwl⟩:∃ W,W=w6.setCell ⟨w.heap.size+1,0,none⟩ (.int .i64 4):=⟨_,rfl⟩
  have RL:Hid (Rr w wl p xs k k 0 #[.int .i64 4,.string ⟨#[]⟩,.string ⟨#[]⟩,.slice none 0 0,.bool false,.int .i64 (k:Nat)]):=Lib.hid (by rw [hwl];exact (R6.out.set 0 (.int .i64 4)))
  rw [←hwl]
  clear hwl ca0 ca1 ca2 ca3 ca4 ca5 cb0 cb1 cb2 cb3 cb4 cb5
  go_loopg [] (xs.length) (fun gh wr=>∃ j:Nat,Hid (Rr w wr p xs k j 0 #[.int .i64 4,.string ⟨#[]⟩,.string ⟨#[]⟩,.slice none 0 0,.bool false,.int .i64 (k:Nat)])∧k≤j∧j≤kN∧xs.length-j≤gh)
  case atStart=>exact ⟨k,RL,Nat.le_refl _,hkle,by omega⟩
  case round=>
   obtain ⟨j,hr,hkj,hjn,hgh⟩:=hrel
   have HR:=hr
   have c0:=hr.out.rq.c0
   rw [←HSS.out] at c0
   have c1:=hr.out.rq.c1
   have f1:=hr.out.rq.free 1
   by_cases hlt:j<kN
   ·obtain ⟨hjl,hx⟩:=HWI.out j hkj hlt
    have hjS:j<S.size:=by rw [hSz];exact hjl
    have hjI:(j:Int)<S.size:=by omega
    obtain ⟨x,hxx⟩:∃ x:Nat,xs.getD j 0=x:=⟨_,rfl⟩
    rw [hxx] at hx
    have hix:=index_at S j hjS x (by rw [HGET.out j hjS];exact hxx)
    have hxI:((x:Int) != 60)=true:=bne_iff_ne.2 (by omega)
    clear hxx
    go_upto_region 4 with fail
    go_quiet (fail)
    go_wp2
    go_roundg (xs.length-(j+1))
    case measure=>omega
    case rel=>exact ⟨j+1,Lib.hid ((HR.out.drew nq).step (touch_set p 1 _ _) ((HR.out.drew nq).rq.set1 (j+1) hjl)),by omega,by omega,Nat.le_refl _⟩
   ·obtain rfl:j=kN:=by omega
    have DONE:=True.intro
    go_upto_region 4 with fail
    go_cut [40] from 19 to 40 (fun s40 wx=>s40 = .bool false∧∃ q,wx=wr.drewN q)
    case first=>
     by_cases he:j<xs.length
     ·have hjS:j<S.size:=by rw [hSz];exact he
      have hjI:(j:Int)<S.size:=by omega
      have hix:=index_at S j hjS 60 (by rw [HGET.out j hjS];exact HWE.out he)
      have hxI:(((60:Nat):Int) != 60)=false:=by decide
      go_quiet (fail)
      go_wp2
      go_meet
      case rel=>exact ⟨rfl,_,rfl⟩
     ·have hjS:¬j<S.size:=by rw [hSz];exact he
      have hjI:¬(j:Int)<S.size:=by omega
      go_quiet (fail)
      go_wp2
      go_meet
      case rel=>exact ⟨rfl,_,rfl⟩
    case rest=>
     obtain ⟨rfl,q,hwc⟩:=hcut
     have R8:Hid (Rr w wc p xs k j 0 #[.int .i64 4,.string ⟨#[]⟩,.string ⟨#[]⟩,.slice none 0 0,.bool false,.int .i64 (k:Nat)]):=Lib.hid (by rw [hwc];exact HR.out.drew q)
     clear hwc c0 c1 f1 HR hr
     have c0:=R8.out.rq.c0
     rw [←HSS.out] at c0
     have c1:=R8.out.rq.c1
     have c2:=R8.out.rq.c2
     have hsl:=HSL.out
     have HP:=R8.out.rq.lt
     have HD:Hid (Below wc.heap.size wc wc.drew):=Lib.hid (below_drewN (Below.refl _ wc) 1)
     have AF:Hid (∀ W,Below wc.heap.size wc W→(fun W=>W.cell? ⟨p,0,none⟩=some (.string S)∧W.cell? ⟨p,1,none⟩=some (.int .i64 (j:Nat))∧W.cell? ⟨p,2,none⟩=some (.int .i64 (k:Nat))) W):=Lib.hid fun W hW=>⟨(hW.cell HP).trans c0,(hW.cell HP).trans c1,(hW.cell HP).trans c2⟩
     have KT1:=Lib.hid (KT.out wc.drew)
     have KF:Hid (∀ W,Rq W p xs j k 0→Calls Tryz.prog 49 #[.pointer (some ⟨p,0,none⟩),.int .i64 22] W (Rs p xs k (.tuple #[]) j 22 W)):=Lib.hid fun W hW=>by
      have:=qfail W p xs j k 0 22 hW
      rwa [if_pos rfl] at this
     rcases htr:tr false P with _ | v
     ·rw [htr,show tdR none = .tuple #[.string ⟨#[]⟩,.bool false] from rfl] at KT1
      rw [htr] at HWD
      have HE:Hid (wdP (xs.drop k) = .error 22):=Lib.hid (by rw [HWD.out];split <;> rfl)
      clear htr
      go_upto_region 6 with fail
      go_region_held3 (fun W=>W.cell? ⟨p,0,none⟩=some (.string S)∧W.cell? ⟨p,1,none⟩=some (.int .i64 (j:Nat))∧W.cell? ⟨p,2,none⟩=some (.int .i64 (k:Nat))) (exact AF.out _ (by first | with_reducible exact HB.out | with_reducible exact HD.out)) (first
       | (go_at_call 15;(with_reducible refine KT1.out.mono ?_);rintro e w9 ⟨rfl,hb1⟩;have HB:=Lib.hid (HD.out.trans (hb1.mono HD.out.size));have R9:=Lib.hid (R8.out.below HB.out);clear hb1))
      clear c0 c1 c2
      have c0:=R9.out.rq.c0
      rw [←HSS.out] at c0
      have c1:=R9.out.rq.c1
      have c2:=R9.out.rq.c2
      go_upto_region 7 with fail
      go_quiet (fail)
      have R10:=Lib.hid (R9.out.drew nq)
      go_wp2_with (go_at_call 49;(with_reducible refine (KF.out _ R10.out.rq).mono ?_);rintro e w11 ⟨rfl,ht,hs⟩;have R11:=Lib.hid (R10.out.step ht hs);clear ht hs;obtain ⟨ca0,ca1,ca2,ca3,ca4,ca5⟩:=R11.out.ce;obtain ⟨cb0,cb1,cb2,cb3,cb4,cb5⟩:=R11.out.fr6;obtain ⟨cz0,cz1,cz2,cz3,cz4,cz5⟩:=(R11.out.set 2 (.string ⟨#[]⟩)).ce0;obtain ⟨cy0,cy1,cy2,cy3,cy4,cy5⟩:=(R11.out.set 2 (.string ⟨#[]⟩)).fr0)
      refine bodyPost_ret (res25 rfl (st6_any (R11.out.set 2 _).b0 _ _ _ _ _ _)) rfl ?_
      rw [HE.out]
      exact (R11.out.set 2 _).no (by decide)
     ·rw [htr,show tdR (some v) = .tuple #[.string (txt v),.bool true] from rfl] at KT1
      rw [htr] at HWD
      simp only at HWD
      obtain ⟨TV,hTV⟩:∃ TV,TV=txt v:=⟨_,rfl⟩
      rw [←hTV] at KT1
      have HTV:=Lib.hid hTV
      clear htr hTV
      cases hins:(ix [93,93,62] P).isSome
      ·rw [hins] at KI HWD
       rw [if_neg (by decide)] at HWD
       clear hins
       go_upto_region 6 with fail
       go_region_held3 (fun W=>W.cell? ⟨p,0,none⟩=some (.string S)∧W.cell? ⟨p,1,none⟩=some (.int .i64 (j:Nat))∧W.cell? ⟨p,2,none⟩=some (.int .i64 (k:Nat))) (exact AF.out _ (by first | with_reducible exact HB.out | with_reducible exact HD.out)) (first
        | (go_at_call 15;(with_reducible refine KT1.out.mono ?_);rintro e w9 ⟨rfl,hb1⟩;have HB:=Lib.hid (HD.out.trans (hb1.mono HD.out.size));have R9:=Lib.hid (R8.out.below HB.out);clear hb1))
       clear c0 c1 c2
       have c0:=R9.out.rq.c0
       rw [←HSS.out] at c0
       have c1:=R9.out.rq.c1
       have c2:=R9.out.rq.c2
       go_upto_region 7 with fail
       go_quiet ((go_at_call 17;with_reducible exact Calls.quiet_of_same (KI.out _)))
       have R10:=Lib.hid (R9.out.drew nq)
       obtain ⟨ca0,ca1,ca2,ca3,ca4,ca5⟩:=R10.out.ce
       obtain ⟨cb0,cb1,cb2,cb3,cb4,cb5⟩:=R10.out.fr6
       obtain ⟨cz0,cz1,cz2,cz3,cz4,cz5⟩:=(R10.out.set 2 (.string TV)).ce0
       obtain ⟨cy0,cy1,cy2,cy3,cy4,cy5⟩:=(R10.out.set 2 (.string TV)).fr0
       go_wp2
       refine bodyPost_ret (res25 rfl (st6_any (R10.out.set 2 _).b0 _ _ _ _ _ _)) rfl ?_
       rw [HTV.out,HWD.out]
       exact (R10.out.set 2 _).yes ⟨4,[],v,[],false⟩ N _ HKN.out (RAtV.nil _ _) (by simp)
      ·rw [hins] at KI HWD
       rw [if_pos rfl] at HWD
       clear hins
       go_upto_region 6 with fail
       go_region_held3 (fun W=>W.cell? ⟨p,0,none⟩=some (.string S)∧W.cell? ⟨p,1,none⟩=some (.int .i64 (j:Nat))∧W.cell? ⟨p,2,none⟩=some (.int .i64 (k:Nat))) (exact AF.out _ (by first | with_reducible exact HB.out | with_reducible exact HD.out)) (first
        | (go_at_call 15;(with_reducible refine KT1.out.mono ?_);rintro e w9 ⟨rfl,hb1⟩;have HB:=Lib.hid (HD.out.trans (hb1.mono HD.out.size));have R9:=Lib.hid (R8.out.below HB.out);clear hb1))
       clear c0 c1 c2
       have c0:=R9.out.rq.c0
       rw [←HSS.out] at c0
       have c1:=R9.out.rq.c1
       have c2:=R9.out.rq.c2
       go_upto_region 7 with fail
       go_quiet ((go_at_call 17;with_reducible exact Calls.quiet_of_same (KI.out _)))
       have R10:=Lib.hid (R9.out.drew nq)
       go_wp2_with (go_at_call 49;(with_reducible refine (KF.out _ R10.out.rq).mono ?_);rintro e w11 ⟨rfl,ht,hs⟩;have R11:=Lib.hid (R10.out.step ht hs);clear ht hs;obtain ⟨ca0,ca1,ca2,ca3,ca4,ca5⟩:=R11.out.ce;obtain ⟨cb0,cb1,cb2,cb3,cb4,cb5⟩:=R11.out.fr6;obtain ⟨cz0,cz1,cz2,cz3,cz4,cz5⟩:=(R11.out.set 2 (.string TV)).ce0;obtain ⟨cy0,cy1,cy2,cy3,cy4,cy5⟩:=(R11.out.set 2 (.string TV)).fr0)
       refine bodyPost_ret (res25 rfl (st6_any (R11.out.set 2 _).b0 _ _ _ _ _ _)) rfl ?_
       rw [HWD.out]
       exact (R11.out.set 2 _).no (by decide)
end
end Go.Proofs.YtbogfailbgbdoaaGreatDoor.K
