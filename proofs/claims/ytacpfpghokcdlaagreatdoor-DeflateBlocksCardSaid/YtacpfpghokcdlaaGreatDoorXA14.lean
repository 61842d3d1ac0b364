/- Part 14. -/
import Derived.Test.YtacpfpghokcdlaaGreatDoorXA13
namespace Go.Proofs.YtacpfpghokcdlaaGreatDoor.Y
set_option maxRecDepth 100000
section
open Go.RowKit Go.Sort
def MergeTo (cnt:Nat→Int) (cx b N c:Nat) (w0:World) (k:Nat):Prop:=
 ∀ (lo m hi:Nat) (d:Array Nat) (w:World),hi-lo≤k→Srt w0 b N d w→Stb cnt d→lo<m→m<hi→hi≤d.size→d.size≤1000→Asc (kz cnt) d lo m→Asc (kz cnt) d m hi→
  Calls Tryz.prog 198 #[.slice (some ⟨b,0,none⟩) d.size c,.int .i64 lo,.int .i64 m,.int .i64 hi,.func (.func 187) #[] #[.pointer (some ⟨cx,0,none⟩)]] w fun e w'=>
   e = .returned (.tuple #[])∧∃ d',Mg (kz cnt) w0 b N d lo hi d' w'
set_option maxHeartbeats 16000000 in
set_option maxRecDepth 100000 in
theorem merge_two (cnt:Nat→Int) (cx b N c:Nat) (w0:World) (k:Nat) (HC0:Cmp cnt N cx b w0) (IH:MergeTo cnt cx b N c w0 k) (lo m hi:Nat) (d:Array Nat) (w:World) (hk:hi-lo≤k+1) (S:Srt w0 b N d w) (ST0:Stb cnt d) (h1:lo+1<m) (h2:m+1<hi) (h3:hi≤d.size) (hsz:d.size≤1000) (hA:Asc (kz cnt) d lo m) (hB:Asc (kz cnt) d m hi) :
  Calls Tryz.prog 198 #[.slice (some ⟨b,0,none⟩) d.size c,.int .i64 lo,.int .i64 m,.int .i64 hi,.func (.func 187) #[] #[.pointer (some ⟨cx,0,none⟩)]] w fun e w'=>
   e = .returned (.tuple #[])∧∃ d',Mg (kz cnt) w0 b N d lo hi d' w':=by
 have S0:=Lib.hid S
 have HC:=Lib.hid HC0
 have HI:=Lib.hid IH
 have HA:=Lib.hid hA
 have HB:=Lib.hid hB
 have HK:=Lib.hid hk
 have ST:=Lib.hid ST0
 clear S HC0 hA hB IH hk ST0
 obtain ⟨dl,hdl⟩:∃ dl,dl=m-lo:=⟨_,rfl⟩
 obtain ⟨dr,hdr⟩:∃ dr,dr=hi-m:=⟨_,rfl⟩
 obtain ⟨sm,hsm⟩:∃ sm,sm=lo+hi:=⟨_,rfl⟩
 obtain ⟨mid,hmid⟩:∃ mid,mid=(lo+hi)/2:=⟨_,rfl⟩
 obtain ⟨nn,hnn⟩:∃ nn,nn=mid+m:=⟨_,rfl⟩
 have HM:=Lib.hid hmid
 have hmid1:lo<mid:=by omega
 have hmid2:mid<hi:=by omega
 have HN:=Lib.hid hnn
 have E2:=Lib.hid (half_u lo hi (by omega))
 rw [←hmid,←hsm] at E2
 have E1:=Lib.hid (show IntKind.i64.wrap ((lo:Int)+hi)=sm by rw [IntKind.wrap_i64];omega)
 have E3:=Lib.hid (show IntKind.i64.wrap ((mid:Int)+m)=nn by rw [IntKind.wrap_i64];omega)
 have F1:=Lib.hid (show IntKind.i64.wrap ((m:Int)-lo)=dl by rw [IntKind.wrap_i64];omega)
 have F2:=Lib.hid (show IntKind.i64.wrap ((hi:Int)-m)=dr by rw [IntKind.wrap_i64];omega)
 have g1:((dl:Int) == 1)=false:=by simp;omega
 have g2:((dr:Int) == 1)=false:=by simp;omega
 clear hdl hdr hsm hmid hnn
 go_enter Tryz.func198,Tryz.ntmps198
 have f1:=F1.out
 go_upto_region 12 with fail
 clear f1
 have f2:=F2.out
 go_upto_region 24 with fail
 clear f2
 have e1:=E1.out
 have e2:=E2.out
 go_upto_region 25 with fail
 rw [e2]
 clear e1 e2
 have e3:=E3.out
 go_upto_if 140 with fail
 clear e3
 go_cut [20,21] from 25 (fun s20 s21 wx=>∃ s0 r0:Nat,s20 = .int .i64 s0∧s21 = .int .i64 r0∧wx=w∧((mid<m∧s0+hi=mid+m∧r0=mid)∨(m≤mid∧s0=lo∧r0=m)))
 case first=>
  by_cases hc:mid<m
  ·have hc':(mid:Int)<m:=by omega
   have Es:=Lib.hid (show IntKind.i64.wrap ((nn:Int)-hi)=((mid+m-hi:Nat):Int) by have:=HN.out;have:=HM.out;rw [IntKind.wrap_i64];omega)
   have es:=Es.out
   go_wp2
   clear es
   go_meet
   case rel=>
    exact ⟨_,_,rfl,rfl,rfl,.inl ⟨hc,by have:=HN.out;have:=HM.out;omega,rfl⟩⟩
  ·have hc':(m:Int)≤mid:=by omega
   go_wp2
   go_meet
   case rel=>exact ⟨_,_,rfl,rfl,rfl,.inr ⟨by omega,rfl,rfl⟩⟩
 case rest=>
  obtain ⟨s0,r0,rfl,rfl,rfl,hs0⟩:=hcut
  have HS:=Lib.hid hs0
  obtain ⟨pp,hpp⟩:∃ pp,pp=nn-1:=⟨_,rfl⟩
  have HP:Hid (pp+1=mid+m):=Lib.hid (by have:=HN.out;omega)
  have ep:=(show IntKind.i64.wrap ((nn:Int)-1)=pp by have:=HN.out;rw [IntKind.wrap_i64];omega)
  have hr0:s0≤r0:=by have:=HM.out;omega
  have hr1:lo≤s0:=by have:=HM.out;omega
  have hr2:r0≤m:=by omega
  have hr3:r0≤mid:=by omega
  have hr4:mid+m≤hi+s0:=by have:=HM.out;omega
  clear hs0 hpp
  go_wp2
  clear ep
  go_loopw [20,21] (fun iv jv wr=>∃ i j:Nat,iv = .int .i64 i∧jv = .int .i64 j∧s0≤i∧i≤j∧j≤r0∧Srt w0 b N d wr∧(∀ x,s0≤x→x<i→kz cnt d[x]! ≤ kz cnt d[mid+m-1-x]!)∧(∀ x,j≤x→x<r0→kz cnt d[mid+m-1-x]! < kz cnt d[x]!)) (fun iv jv _=>(intOf jv).toNat-(intOf iv).toNat)
  case atStart=>exact ⟨s0,r0,rfl,rfl,Nat.le_refl _,hr0,Nat.le_refl _,S0.out,fun x _ _=>by omega,fun x _ _=>by omega⟩
  case round=>
   obtain ⟨i,j,rfl,rfl,hmi,hij,hjh,hs,hg,hb⟩:=hrel
   have SR:=Lib.hid hs
   have HG:=Lib.hid hg
   have HBd:=Lib.hid hb
   clear hs hg hb S0
   by_cases hlt:i<j
   ·have hlt':(i:Int)<j:=by omega
    obtain ⟨h,hh⟩:∃ h,h=(i+j)/2:=⟨_,rfl⟩
    have hhi:i≤h∧h<j:=by omega
    obtain ⟨hhi1,hhi2⟩:=hhi
    obtain ⟨g,hgg⟩:∃ g,g=pp-h:=⟨_,rfl⟩
    have hg1:h≤pp:=by have:=HP.out;omega
    have hg2:m≤g:=by have:=HP.out;omega
    have hg3:g<hi:=by have:=HP.out;omega
    have hg4:Hid (g=mid+m-1-h):=Lib.hid (by have:=HP.out;omega)
    have EG:=Lib.hid (show IntKind.i64.wrap ((pp:Int)-h)=g by rw [IntKind.wrap_i64];omega)
    have b1:(h:Int)<d.size:=by omega
    have b2:(g:Int)<d.size:=by omega
    have E1':=Lib.hid (show IntKind.i64.wrap ((i:Int)+j)=((i+j:Nat):Int) by rw [IntKind.wrap_i64];omega)
    have E2':=Lib.hid (half_u i j (by omega))
    obtain ⟨sq,hsq⟩:∃ sq,sq=i+j:=⟨_,rfl⟩
    rw [←hh] at E2'
    rw [←hsq] at E1' E2'
    clear hh hsq hgg
    have ca:=SR.out.cell g (by omega)
    have cb:=SR.out.cell h (by omega)
    obtain ⟨x,hx⟩:∃ x,x=d[g]! := ⟨_,rfl⟩
    obtain ⟨y,hy⟩:∃ y,y=d[h]! := ⟨_,rfl⟩
    have HX:=Lib.hid hx
    have HY:=Lib.hid hy
    rw [←hx] at ca
    rw [←hy] at cb
    have HL:Hid (x<N∧y<N):=Lib.hid ⟨by rw [hx];exact SR.out.lt g (by omega),by rw [hy];exact SR.out.lt h (by omega)⟩
    have HT:Hid ((x<1024∧y<1024)∧(cnt x=cnt y→y≤x)):=Lib.hid ⟨⟨by have:=HC.out.1;have:=HL.out.1;omega,by have:=HC.out.1;have:=HL.out.2;omega⟩,fun he=>by rw [hx,hy] at he ⊢;exact ST.out h g (by omega) (by omega) he.symm⟩
    have HCC:Hid (∀ n,Calls Tryz.prog 187 #[.int .i64 (x:Nat),.int .i64 (y:Nat),.pointer (some ⟨cx,0,none⟩)] (wr.drewN n) fun e w'=>e = .returned (.int .i64 (ci (cnt x) (cnt y)))∧∃ q,w'=(wr.drewN n).drewN q):=
     Lib.hid fun n=>HC.out.2 _ (SR.out.touch.drewN n) x y HL.out.1 HL.out.2
    clear hx hy
    have ex1:∀ z,z≤h→s0≤z→m≤mid+m-1-z∧mid+m-1-z<hi∧g≤mid+m-1-z:=fun z hz hz2=>by have:=hg4.out;omega
    have ex2:∀ z,h≤z→z<r0→m≤mid+m-1-z∧mid+m-1-z≤g:=fun z hz hz2=>by have:=hg4.out;omega
    have EX:=Lib.hid (And.intro ex1 ex2)
    clear ex1 ex2
    cases hlv:ltk (kz cnt) x y with
    | true=>
     have hv:=ltk_ci' cnt x y HT.out hlv
     obtain ⟨cv,hcv⟩:∃ cv,cv=ci (cnt x) (cnt y):=⟨_,rfl⟩
     rw [←hcv] at HCC hv
     have HLV:Hid (kz cnt x<kz cnt y):=Lib.hid (of_decide_eq_true hlv)
     have hd:decide (cv<0)=true:=decide_eq_true hv
     clear hcv hlv
     have e1:=E1'.out
     have e2:=E2'.out
     go_wp2
     try rw [e2]
     clear e1 e2
     have eg:=EG.out
     go_quiet ((go_at_call 187;exact Calls.quiet_of (HCC.out _)))
     clear eg
     have SJ2:=Lib.hid (SR.out.drewN nq)
     clear ca cb SR HCC
     generalize wr.drewN nq=w2 at SJ2 ⊢
     go_wp2
     go_roundw
     case rel=>
      refine ⟨i,h,rfl,rfl,hmi,hhi1,by omega,SJ2.out,HG.out,fun z hz1 hz2=>?_⟩
      have q:=EX.out.2 z hz1 hz2
      have q1:=HA.out h z (by omega) hz1 (by omega)
      have q2:=HB.out (mid+m-1-z) g q.1 q.2 hg3
      have h4:=HLV.out
      rw [HX.out,HY.out] at h4
      omega
     case measure=>simp [intOf];omega
    | false=>
     have hv:¬ci (cnt x) (cnt y)<0:=of_decide_eq_false (ltk_ci cnt x y HT.out false hlv)
     obtain ⟨cv,hcv⟩:∃ cv,cv=ci (cnt x) (cnt y):=⟨_,rfl⟩
     rw [←hcv] at HCC hv
     have HLV:Hid (¬kz cnt x<kz cnt y):=Lib.hid (of_decide_eq_false hlv)
     have hv':0≤cv:=Int.not_lt.mp hv
     have hd:decide (cv<0)=false:=decide_eq_false hv
     clear hcv hlv hv
     have e1:=E1'.out
     have e2:=E2'.out
     go_wp2
     try rw [e2]
     clear e1 e2
     have eg:=EG.out
     go_quiet ((go_at_call 187;exact Calls.quiet_of (HCC.out _)))
     clear eg
     have SJ2:=Lib.hid (SR.out.drewN nq)
     clear ca cb SR HCC
     generalize wr.drewN nq=w2 at SJ2 ⊢
     go_wp2
     go_roundw
     case rel=>
      refine ⟨h+1,j,by go_num,rfl,by omega,by omega,hjh,SJ2.out,fun z hz1 hz2=>?_,HBd.out⟩
      have q:=EX.out.1 z (by omega) hz1
      have q1:=HA.out z h (by omega) (by omega) (by omega)
      have q2:=HB.out g (mid+m-1-z) hg2 q.2.2 q.2.1
      have h4:=HLV.out
      rw [HX.out,HY.out] at h4
      omega
     case measure=>simp [intOf];omega
   ·have hij':i=j:=by omega
    subst hij'
    have CA:=Lib.hid (cut_at (kz cnt) d lo m hi mid i s0 r0 (by omega) (by omega) HM.out HA.out HB.out (by rcases HS.out with h | h;exact .inl ⟨h.1,by omega,h.2.2⟩;exact .inr h) ⟨hmi,hjh⟩ HG.out HBd.out)
    obtain ⟨en,hen⟩:∃ en,en=m+mid-i:=⟨_,rfl⟩
    have hm1:i≤m:=CA.out.a.2
    have hm2:i≤mid:=CA.out.l
    have hm3:lo≤i:=CA.out.a.1
    have hm4:m≤en∧en≤hi:=by have:=CA.out.e;omega
    obtain ⟨hm5,hm6⟩:=hm4
    have EN:=Lib.hid hen
    have ee:=(show IntKind.i64.wrap ((nn:Int)-i)=en by have:=HN.out;rw [IntKind.wrap_i64];omega)
    have hem:mid≤en:=by omega
    clear hen
    go_upto_region 39 with fail
    clear ee
    go_cut [185] from 178 (fun cv wx=>cv = .bool (decide (i<m∧m<en))∧wx=wr)
    case first=>
     by_cases q1:i<m
     ·have q1':(i:Int)<m:=by omega
      by_cases q2:m<en
      ·have q2':(m:Int)<en:=by omega
       go_wp2
       go_meet
       case rel=>exact ⟨by simp [q1,q2],rfl⟩
      ·have q2':(en:Int)≤m:=by omega
       go_wp2
       go_meet
       case rel=>exact ⟨by simp [q1,q2],rfl⟩
     ·have q1':(m:Int)≤i:=by omega
      go_wp2
      go_meet
      case rel=>exact ⟨by simp [q1],rfl⟩
    case rest=>
    obtain ⟨rfl,rfl⟩:=hcut
    go_upto_if 185 with fail
    go_cut [] from 178 (fun wx=>∃ d1,Srt w0 b N d1 wx∧PermIn i en d d1∧∀ x,rotf d i m en x=d1[x]!)
    case first=>
     by_cases q:i<m∧m<en
     ·have q':decide (i<m∧m<en)=true:=decide_eq_true q
      have HR:=Lib.hid (rotate_any cx b N c i m en d w0 wc SR.out q.1 q.2 (by omega) hsz)
      rw [q']
      clear q q'
      go_wp2_with (go_at_call 199;(with_reducible refine HR.out.mono ?_);rintro e w' ⟨rfl,d1,hR1⟩;have HR1:=Lib.hid hR1;clear hR1)
      go_meet
      case rel=>exact ⟨d1,HR1.out.s,HR1.out.perm,HR1.out.at_⟩
     ·have q':decide (i<m∧m<en)=false:=decide_eq_false q
      have q3:=Lib.hid (show i=m∨m=en by omega)
      rw [q']
      clear q q'
      go_wp2
      go_meet
      case rel=>exact ⟨d,SR.out,permIn_refl _ _ _,fun x=>rot_none d i m en x q3.out hm1 hm5⟩
    case rest=>
    obtain ⟨d1,hsd1,hp1,hr1⟩:=hcut
    have S1:=Lib.hid hsd1
    have P1:=Lib.hid hp1
    have HH:=Lib.hid (half (kz cnt) d d1 lo m hi mid i (by omega) HM.out HA.out HB.out CA.out (by rw [←EN.out];exact hr1))
    rw [←EN.out] at HH
    have hz1:d1.size=d.size:=hp1.1
    have T1:Hid (Stb cnt d1):=Lib.hid (stb_rot ST.out hm1 hm5 (by omega) hz1 hr1 (by rw [EN.out];exact CA.out.bad))
    clear hsd1 hp1 hr1 SR
    go_upto_region 41 with fail
    go_cut [199] from 192 (fun cv wx=>cv = .bool (decide (lo<i∧i<mid))∧wx=wc)
    case first=>
     by_cases q1:lo<i
     ·have q1':(lo:Int)<i:=by omega
      by_cases q2:i<mid
      ·have q2':(i:Int)<mid:=by omega
       go_wp2
       go_meet
       case rel=>exact ⟨by simp [q1,q2],rfl⟩
      ·have q2':(mid:Int)≤i:=by omega
       go_wp2
       go_meet
       case rel=>exact ⟨by simp [q1,q2],rfl⟩
     ·have q1':(i:Int)≤lo:=by omega
      go_wp2
      go_meet
      case rel=>exact ⟨by simp [q1],rfl⟩
    case rest=>
    obtain ⟨rfl,rfl⟩:=hcut
    go_upto_if 199 with fail
    go_cut [] from 192 (fun wx=>∃ d2,Mg (kz cnt) w0 b N d1 lo mid d2 wx)
    case first=>
     by_cases q:lo<i∧i<mid
     ·have q':decide (lo<i∧i<mid)=true:=decide_eq_true q
      have HR:=Lib.hid (HI.out lo i mid d1 wc (by have:=HK.out;omega) S1.out T1.out q.1 q.2 (by omega) (by omega) HH.out.l1 HH.out.l2)
      rw [hz1] at HR
      rw [q']
      clear q q'
      go_wp2_with (go_at_call 198;(with_reducible refine HR.out.mono ?_);rintro e w' ⟨rfl,d2,hR1⟩;have HR1:=Lib.hid hR1;clear hR1)
      go_meet
      case rel=>exact ⟨d2,HR1.out⟩
     ·have q':decide (lo<i∧i<mid)=false:=decide_eq_false q
      have q3:=Lib.hid (show i=lo∨i=mid by omega)
      rw [q']
      clear q q'
      go_wp2
      go_meet
      case rel=>
       refine ⟨d1,S1.out,permIn_refl _ _ _,?_⟩
       rcases q3.out with h | h
       ·have:=HH.out.l2;rwa [h] at this
       ·have:=HH.out.l1;rwa [h] at this
    case rest=>
    obtain ⟨d2,hm2'⟩:=hcut
    have M2:=Lib.hid hm2'
    have hz2:d2.size=d.size:=by rw [←hz1];exact hm2'.perm.1
    have T2:Hid (Stb cnt d2):=Lib.hid (stb_asc (by omega) T1.out hm2'.perm hm2'.asc)
    clear hm2' S1
    go_upto_region 43 with fail
    go_cut [213] from 206 (fun cv wx=>cv = .bool (decide (mid<en∧en<hi))∧wx=wc)
    case first=>
     by_cases q1:mid<en
     ·have q1':(mid:Int)<en:=by omega
      by_cases q2:en<hi
      ·have q2':(en:Int)<hi:=by omega
       go_wp2
       go_meet
       case rel=>exact ⟨by simp [q1,q2],rfl⟩
      ·have q2':(hi:Int)≤en:=by omega
       go_wp2
       go_meet
       case rel=>exact ⟨by simp [q1,q2],rfl⟩
     ·have q1':(en:Int)≤mid:=by omega
      go_wp2
      go_meet
      case rel=>exact ⟨by simp [q1],rfl⟩
    case rest=>
    obtain ⟨rfl,rfl⟩:=hcut
    have RA:Hid (∀ x,mid≤x→d2[x]! = d1[x]!):=Lib.hid fun x hx=>permIn_out M2.out.perm (.inr hx)
    have A1:Hid (Asc (kz cnt) d2 mid en):=Lib.hid (HH.out.r1.congr fun x hx _=>RA.out x hx)
    have A2:Hid (Asc (kz cnt) d2 en hi):=Lib.hid (HH.out.r2.congr fun x hx _=>RA.out x (by omega))
    have PT:Hid (PermIn lo hi d d2):=Lib.hid (permIn_trans _ _ _ _ _ (permIn_mono _ _ _ _ _ _ hm3 hm6 h3 P1.out) (permIn_mono _ _ _ _ _ _ (Nat.le_refl _) (by omega) (by omega) M2.out.perm))
    have FIN:Hid (∀ d3,PermIn mid hi d2 d3→Asc (kz cnt) d3 mid hi→PermIn lo hi d d3∧Asc (kz cnt) d3 lo hi):=Lib.hid fun d3 p3 a3=>
     ⟨permIn_trans _ _ _ _ _ PT.out (permIn_mono _ _ _ _ _ _ (by omega) (Nat.le_refl _) (by omega) p3),whole (kz cnt) d1 d2 d3 lo mid hi i en (by omega) HH.out M2.out.perm M2.out.asc p3 a3⟩
    clear RA PT HH P1
    by_cases q:mid<en∧en<hi
    ·have q':decide (mid<en∧en<hi)=true:=decide_eq_true q
     have HR:=Lib.hid (HI.out mid en hi d2 wc (by have:=HK.out;omega) M2.out.s T2.out q.1 q.2 (by omega) (by omega) A1.out A2.out)
     rw [hz2] at HR
     rw [q']
     clear q q'
     go_wp2_with (go_at_call 198;(with_reducible refine HR.out.mono ?_);rintro e w' ⟨rfl,d3,hR1⟩;have HR1:=Lib.hid hR1;clear hR1)
     go_end0
     have:=FIN.out d3 HR1.out.perm HR1.out.asc
     exact ⟨rfl,d3,HR1.out.s,this.1,this.2⟩
    ·have q':decide (mid<en∧en<hi)=false:=decide_eq_false q
     have q3:=Lib.hid (show mid=en∨en=hi by omega)
     rw [q']
     clear q q'
     go_wp2
     go_end0
     have A3:Asc (kz cnt) d2 mid hi:=by
      rcases q3.out with h | h
      ·rw [h];exact A2.out
      ·have:=A1.out;rwa [h] at this
     have:=FIN.out d2 (permIn_refl _ _ _) A3
     exact ⟨rfl,d2,M2.out.s,this.1,this.2⟩
theorem merge_all (cnt:Nat→Int) (cx b N c:Nat) (w0:World) (HC:Cmp cnt N cx b w0) (k:Nat):MergeTo cnt cx b N c w0 k:=by
 induction k with
 | zero=>intro lo m hi d w hk _ _ h1 h2;omega
 | succ k ih=>
  intro lo m hi d w hk S ST h1 h2 h3 hsz hA hB
  by_cases c1:m=lo+1
  ·exact merge_one cnt cx b N c lo m hi d w0 w HC S ST c1 h2 h3 hsz hB
  ·by_cases c2:hi=m+1
   ·exact merge_last cnt cx b N c lo m hi d w0 w HC S ST (by omega) c2 h3 hsz hA
   ·exact merge_two cnt cx b N c w0 k HC ih lo m hi d w hk S ST (by omega) (by omega) h3 hsz hA hB
def Bks (key:Nat→Int) (d:Array Nat) (bs n f:Nat):Prop:=∀ s,f≤s→Asc key d (s*bs) (min (s*bs+bs) n)
def Fst (key:Nat→Int) (d:Array Nat) (bs t:Nat):Prop:=∀ s,s<t→Asc key d (s*bs) (s*bs+bs)
theorem mul_low {s t bs:Nat} (h:s<t):s*bs+bs≤t*bs:=by
 have:=Nat.mul_le_mul_right bs (show s+1≤t from h)
 rw [Nat.add_mul] at this
 omega
theorem Fst.step {key:Nat→Int} {d d':Array Nat} {bs t:Nat} (h:Fst key d bs t) (p:PermIn (t*bs) (t*bs+bs) d d') (a:Asc key d' (t*bs) (t*bs+bs)):Fst key d' bs (t+1):=fun s hs=>by
 by_cases e:s=t
 ·subst e;exact a
 ·refine (h s (by omega)).congr fun x _ hx=>permIn_out p (.inl ?_)
  have:=mul_low (bs:=bs) (show s<t by omega)
  omega
theorem Fst.last {key:Nat→Int} {d d':Array Nat} {bs t n:Nat} (h:Fst key d bs t) (hn:n<t*bs+bs) (p:PermIn (t*bs) n d d') (a:Asc key d' (t*bs) n):Bks key d' bs n 0:=fun s _=>by
 by_cases e:s<t
 ·have h2:=mul_low (bs:=bs) e
  refine ((h s e).sub (Nat.le_refl _) (Nat.min_le_left _ _)).congr fun x _ hx=>permIn_out p (.inl ?_)
  have:=Nat.min_le_left (s*bs+bs) n
  omega
 ·by_cases e2:s=t
  ·subst e2;exact a.sub (Nat.le_refl _) (Nat.min_le_right _ _)
  ·have h2:=mul_low (bs:=bs) (show t<s by omega)
   intro i j hi _ hj
   have:=Nat.min_le_right (s*bs+bs) n
   omega
theorem Bks.two {key:Nat→Int} {d:Array Nat} {bs n t:Nat} (h:Bks key d bs n (2*t)):Asc key d (t*(2*bs)) (min (t*(2*bs)+bs) n)∧Asc key d (t*(2*bs)+bs) (min (t*(2*bs)+2*bs) n):=by
 have h1:=h (2*t) (Nat.le_refl _)
 have h2:=h (2*t+1) (by omega)
 have e:2*t*bs=t*(2*bs):=by rw [Nat.mul_comm 2 t,Nat.mul_assoc]
 rw [Nat.add_mul,Nat.one_mul] at h2
 rw [e] at h1 h2
 refine ⟨h1,?_⟩
 rwa [show t*(2*bs)+2*bs=t*(2*bs)+bs+bs by omega]
theorem Bks.step {key:Nat→Int} {d d':Array Nat} {bs n t:Nat} (h:Bks key d bs n (2*t)) (p:PermIn (t*(2*bs)) (t*(2*bs)+2*bs) d d'):Bks key d' bs n (2*(t+1)):=fun s hs=>by
 refine (h s (by omega)).congr fun x hx _=>permIn_out p (.inr ?_)
 have:=Nat.mul_le_mul_right bs hs
 rw [show 2*(t+1)*bs=t*(2*bs)+2*bs by rw [Nat.mul_comm 2,Nat.mul_assoc,Nat.add_mul];omega] at this
 omega
structure Sd (key:Nat→Int) (w0:World) (b N:Nat) (d d':Array Nat) (W:World):Prop where
 s:Srt w0 b N d' W
 perm:PermIn 0 d.size d d'
 asc:Asc key d' 0 d.size
set_option maxHeartbeats 16000000 in
set_option maxRecDepth 100000 in
theorem stable_any (cnt:Nat→Int) (cx b N c:Nat) (d:Array Nat) (w0 w:World) (HC0:Cmp cnt N cx b w0) (S:Srt w0 b N d w) (ST0:Stb cnt d) (hsz:d.size≤1000) :
  Calls Tryz.prog 194 #[.slice (some ⟨b,0,none⟩) d.size c,.int .i64 d.size,.func (.func 187) #[] #[.pointer (some ⟨cx,0,none⟩)]] w fun e w'=>
   e = .returned (.tuple #[])∧∃ d',Sd (kz cnt) w0 b N d d' w':=by
 have S0:=Lib.hid S
 have HC:=Lib.hid HC0
 have ST:=Lib.hid ST0
 clear S HC0 ST0
 go_enter Tryz.func194,Tryz.ntmps194
 go_wp2
 go_loopw [7,8] (fun av bv wr=>∃ (t:Nat) (dk:Array Nat),av = .int .i64 ((t*20:Nat):Int)∧bv = .int .i64 ((t*20+20:Nat):Int)∧t*20≤d.size∧dk.size=d.size∧Srt w0 b N dk wr∧Stb cnt dk∧PermIn 0 d.size d dk∧Fst (kz cnt) dk 20 t) (fun av _ _=>d.size-(intOf av).toNat)
 case atStart=>exact ⟨0,d,rfl,rfl,Nat.zero_le _,rfl,S0.out,ST.out,permIn_refl _ _ _,fun s hs=>by omega⟩
 case round=>
  obtain ⟨t,dk,rfl,rfl,ht,hdk,hs,hst,hp,hf⟩:=hrel
  have TK:=Lib.hid hst
  have SR:=Lib.hid hs
  have HP:=Lib.hid hp
  have HF:=Lib.hid hf
  clear hs hst hp hf S0 ST
  obtain ⟨a,ha⟩:∃ a,a=t*20:=⟨_,rfl⟩
  obtain ⟨a2,ha2⟩:∃ a2,a2=a+20:=⟨_,rfl⟩
  obtain ⟨a3,ha3⟩:∃ a3,a3=a2+20:=⟨_,rfl⟩
  rw [←ha,←ha2]
  by_cases hle:a2≤d.size
  ·have hle':(a2:Int)≤d.size:=by omega
   have HR:=Lib.hid (insertion_any cnt cx b N c a a2 dk w0 wr HC.out SR.out TK.out (by omega) (by omega) (by omega))
   rw [hdk] at HR
   have IS':=Lib.hid (insertionSort_holds (lt:=ltk (kz cnt)) (ltk_swo (kz cnt)) dk a a2 (by omega) (by omega))
   have ea:=(show IntKind.i64.wrap ((a2:Int)+20)=a3 by rw [IntKind.wrap_i64];omega)
   have HA:=Lib.hid (And.intro ha (And.intro ha2 ha3))
   clear ha ha2 ha3
   go_wp2_with (go_at_call 197;(with_reducible refine HR.out.mono ?_);rintro e w' ⟨rfl,hR1⟩;have HR1:=Lib.hid hR1;clear hR1)
   clear ea
   go_roundw
   case rel=>
    obtain ⟨h1,h2,h3⟩:=HA.out
    refine ⟨t+1,_,by congr 1;omega,by congr 1;omega,by omega,?_,HR1.out,?_,?_,?_⟩
    ·rw [←hdk];exact IS'.out.1.1
    ·exact stb_asc (by omega) TK.out IS'.out.1 (Asc.of_sorted IS'.out.2)
    ·exact permIn_trans _ _ _ _ _ HP.out (permIn_mono _ _ _ _ _ _ (Nat.zero_le _) (by omega) (by omega) IS'.out.1)
    ·refine HF.out.step (by rw [←h1,←h2];exact IS'.out.1) ?_
     rw [←h1,←h2]
     exact Asc.of_sorted IS'.out.2
   case measure=>have:=HA.out;simp [intOf];omega
  ·have hle':(d.size:Int)<a2:=by omega
   have HR:=Lib.hid (insertion_any cnt cx b N c a d.size dk w0 wr HC.out SR.out TK.out (by omega) (by omega) (by omega))
   rw [hdk] at HR
   have IS':=Lib.hid (insertionSort_holds (lt:=ltk (kz cnt)) (ltk_swo (kz cnt)) dk a d.size (by omega) (by omega))
   have HBK:Hid (Bks (kz cnt) (Sort.insertionSort (ltk (kz cnt)) dk a d.size) 20 d.size 0):=Lib.hid (by
    refine HF.out.last (t:=t) (by omega) (by rw [←ha];exact IS'.out.1) ?_
    rw [←ha]
    exact Asc.of_sorted IS'.out.2)
   have HPP:Hid (PermIn 0 d.size d (Sort.insertionSort (ltk (kz cnt)) dk a d.size)):=Lib.hid (permIn_trans _ _ _ _ _ HP.out (permIn_mono _ _ _ _ _ _ (Nat.zero_le _) (Nat.le_refl _) (by omega) IS'.out.1))
   have TF:Hid (Stb cnt (Sort.insertionSort (ltk (kz cnt)) dk a d.size)):=Lib.hid (stb_asc (by omega) TK.out IS'.out.1 (Asc.of_sorted IS'.out.2))
   clear ha ha2 ha3 IS' HP HF TK
   obtain ⟨d1,hd1⟩:∃ d1,d1=Sort.insertionSort (ltk (kz cnt)) dk a d.size:=⟨_,rfl⟩
   rw [←hd1] at HBK HPP HR TF
   clear hd1
   go_wp2_with (go_at_call 197;(with_reducible refine HR.out.mono ?_);rintro e w' ⟨rfl,hR1⟩;have HR1:=Lib.hid hR1;clear hR1)
   clear SR HR hle hle' ht hdk
   go_loopw [6] (fun sv wr=>∃ (bs:Nat) (dk:Array Nat),sv = .int .i64 bs∧0<bs∧bs≤2000∧dk.size=d.size∧Srt w0 b N dk wr∧Stb cnt dk∧PermIn 0 d.size d dk∧Bks (kz cnt) dk bs d.size 0) (fun sv _=>d.size-(intOf sv).toNat)
   case atStart=>exact ⟨20,d1,rfl,by omega,by omega,HPP.out.1,HR1.out,TF.out,HPP.out,HBK.out⟩
   case round=>
    obtain ⟨bs,dk,rfl,hb0,hb1,hdk,hs,hst,hp,hf⟩:=hrel
    have TK:=Lib.hid hst
    have SR:=Lib.hid hs
    have HP:=Lib.hid hp
    have HF:=Lib.hid hf
    clear hs hst hp hf HPP HBK HR1 TF
    by_cases hlt:bs<d.size
    ·have hlt':(bs:Int)<d.size:=by omega
     obtain ⟨bd,hbd⟩:∃ bd,bd=2*bs:=⟨_,rfl⟩
     have EB:=Lib.hid (show IntKind.i64.wrap (2*(bs:Int))=bd by rw [IntKind.wrap_i64];omega)
     have EB2:=Lib.hid (show IntKind.i64.wrap ((bs:Int)*2)=bd by rw [IntKind.wrap_i64];omega)
     have HD:=Lib.hid hbd
     have hbd1:bs<bd:=by omega
     have hbd2:bd≤2000:=by omega
     clear hbd
     have eb:=EB.out
     go_wp2
     clear eb
     go_loopw [7,8] (fun av bv wr=>∃ (t:Nat) (di:Array Nat),av = .int .i64 ((t*bd:Nat):Int)∧bv = .int .i64 ((t*bd+bd:Nat):Int)∧t*bd≤d.size∧di.size=d.size∧Srt w0 b N di wr∧Stb cnt di∧PermIn 0 d.size d di∧Fst (kz cnt) di bd t∧Bks (kz cnt) di bs d.size (2*t)) (fun av _ _=>d.size-(intOf av).toNat)
     case atStart=>
      exact ⟨0,dk,by rw [Nat.zero_mul];rfl,by rw [Nat.zero_mul,Nat.zero_add],by rw [Nat.zero_mul];exact Nat.zero_le _,hdk,SR.out,TK.out,HP.out,fun s hs=>absurd hs (Nat.not_lt_zero s),HF.out⟩
     case round=>
      obtain ⟨t,di,rfl,rfl,ht,hdi,hs,hst,hp,hf,hk⟩:=hrel
      have TI:=Lib.hid hst
      have SI:=Lib.hid hs
      have PI:=Lib.hid hp
      have FI:=Lib.hid hf
      have KI:=Lib.hid hk
      have TW:Hid (Asc (kz cnt) di (t*bd) (min (t*bd+bs) d.size)∧Asc (kz cnt) di (t*bd+bs) (min (t*bd+bd) d.size)):=Lib.hid (by
       have:=hk.two
       rwa [←HD.out] at this)
      clear hs hst hp hf hk SR HP HF TK
      obtain ⟨a,ha⟩:∃ a,a=t*bd:=⟨_,rfl⟩
      have HA:=Lib.hid ha
      rw [←ha] at TW ht ⊢
      clear ha
      obtain ⟨am,ham⟩:∃ am,am=a+bs:=⟨_,rfl⟩
      obtain ⟨a2,ha2⟩:∃ a2,a2=a+bd:=⟨_,rfl⟩
      obtain ⟨a3,ha3⟩:∃ a3,a3=a2+bd:=⟨_,rfl⟩
      have EM:=Lib.hid (show IntKind.i64.wrap ((a:Int)+bs)=am by rw [IntKind.wrap_i64];omega)
      have HQ:=Lib.hid (And.intro ham (And.intro ha2 ha3))
      rw [←ham,←ha2] at TW
      rw [←ha2]
      by_cases hle:a2≤d.size
      ·have hle':(a2:Int)≤d.size:=by omega
       have HR:=Lib.hid (merge_all cnt cx b N c w0 HC.out (a2-a) a am a2 di wr (Nat.le_refl _) SI.out TI.out (by omega) (by omega) (by omega) (by omega) (by have:=TW.out.1;rwa [Nat.min_eq_left (by omega)] at this) (by have:=TW.out.2;rwa [Nat.min_eq_left (by omega)] at this))
       rw [hdi] at HR
       have E3:=Lib.hid (show IntKind.i64.wrap ((a2:Int)+bd)=a3 by rw [IntKind.wrap_i64];omega)
       clear ham ha2 ha3
       have em:=EM.out
       go_upto_region 11 with (go_at_call 198;(with_reducible refine HR.out.mono ?_);rintro e w' ⟨rfl,d2,hR1⟩;have HR1:=Lib.hid hR1;clear hR1)
       clear em
       have eb:=EB.out
       have e3:=E3.out
       go_wp2
       clear eb e3
       go_roundw
       case rel=>
        obtain ⟨h1,h2,h3⟩:=HQ.out
        have h4:=HA.out
        have h5:=HD.out
        have e1:(t+1)*bd=a2:=by rw [Nat.add_mul,←h4];omega
        refine ⟨t+1,d2,by rw [e1],by rw [e1,←h3],by omega,by rw [←hdi];exact HR1.out.perm.1,HR1.out.s,stb_asc (by omega) TI.out HR1.out.perm HR1.out.asc,?_,?_,?_⟩
        ·exact permIn_trans _ _ _ _ _ PI.out (permIn_mono _ _ _ _ _ _ (Nat.zero_le _) (by omega) (by omega) HR1.out.perm)
        ·exact FI.out.step (by rw [←h4,←h2];exact HR1.out.perm) (by rw [←h4,←h2];exact HR1.out.asc)
        ·exact KI.out.step (by rw [←h5,←h4,←h2];exact HR1.out.perm)
       case measure=>have:=HQ.out;simp [intOf];omega
      ·have hle':(d.size:Int)<a2:=by omega
       by_cases hm:am<d.size
       ·have hm':(am:Int)<d.size:=by omega
        have HR:=Lib.hid (merge_all cnt cx b N c w0 HC.out (d.size-a) a am d.size di wr (Nat.le_refl _) SI.out TI.out (by omega) (by omega) (by omega) (by omega) (by have:=TW.out.1;rwa [Nat.min_eq_left (by omega)] at this) (by have:=TW.out.2;rwa [Nat.min_eq_right (by omega)] at this))
        rw [hdi] at HR
        clear ham ha2 ha3
        have em:=EM.out
        go_upto_region 16 with (go_at_call 198;(with_reducible refine HR.out.mono ?_);rintro e w' ⟨rfl,d2,hR1⟩;have HR1:=Lib.hid hR1;clear hR1)
        clear em
        have eb:=EB2.out
        go_wp2
        clear eb
        go_roundw
        case rel=>
         have h2:=HQ.out.2.1
         have h4:=HA.out
         refine ⟨bd,d2,rfl,by omega,by omega,by rw [←hdi];exact HR1.out.perm.1,HR1.out.s,stb_asc (by omega) TI.out HR1.out.perm HR1.out.asc,?_,?_⟩
         ·exact permIn_trans _ _ _ _ _ PI.out (permIn_mono _ _ _ _ _ _ (Nat.zero_le _) (Nat.le_refl _) (by omega) HR1.out.perm)
         ·exact FI.out.last (t:=t) (by rw [←h4];omega) (by rw [←h4];exact HR1.out.perm) (by rw [←h4];exact HR1.out.asc)
        case measure=>simp [intOf];omega
       ·have hm':(d.size:Int)≤am:=by omega
        have A1:Hid (Asc (kz cnt) di a d.size):=Lib.hid (by have:=TW.out.1;rwa [Nat.min_eq_right (by omega)] at this)
        clear ham ha2 ha3
        have em:=EM.out
        go_upto_region 16 with fail
        clear em
        have eb:=EB2.out
        go_wp2
        clear eb
        go_roundw
        case rel=>
         have h2:=HQ.out.2.1
         have h4:=HA.out
         refine ⟨bd,di,rfl,by omega,by omega,hdi,SI.out,TI.out,PI.out,?_⟩
         exact FI.out.last (t:=t) (by rw [←h4];omega) (permIn_refl _ _ _) (by rw [←h4];exact A1.out)
        case measure=>simp [intOf];omega
    ·have hlt':(d.size:Int)≤bs:=by omega
     go_wp2
     go_end0
     refine ⟨rfl,dk,SR.out,HP.out,?_⟩
     have:=HF.out 0 (Nat.le_refl _)
     rwa [Nat.zero_mul,Nat.zero_add,Nat.min_eq_right (by omega)] at this
theorem sortStable_any (cnt:Nat→Int) (cx b N c:Nat) (d:Array Nat) (w0 w:World) (HC0:Cmp cnt N cx b w0) (S:Srt w0 b N d w) (ST0:Stb cnt d) (hsz:d.size≤1000) :
  Calls Tryz.prog 186 #[.slice (some ⟨b,0,none⟩) d.size c,.func (.func 187) #[] #[.pointer (some ⟨cx,0,none⟩)]] w fun e w'=>
   e = .returned (.tuple #[])∧∃ d',Sd (kz cnt) w0 b N d d' w':=by
 have HR:=Lib.hid (stable_any cnt cx b N c d w0 w HC0 S ST0 hsz)
 clear S HC0 ST0
 go_enter Tryz.func186,Tryz.ntmps186
 go_wp2_with (go_at_call 194;(with_reducible refine HR.out.mono ?_);rintro e w' ⟨rfl,d2,hR1⟩;have HR1:=Lib.hid hR1;clear hR1)
 go_end0
 exact ⟨rfl,d2,HR1.out⟩
theorem insertion_nil (cx:Nat) (w:World):Calls Tryz.prog 197 #[.slice none 0 0,.int .i64 0,.int .i64 0,.func (.func 187) #[] #[.pointer (some ⟨cx,0,none⟩)]] w fun e w'=>e = .returned (.tuple #[])∧w'=w:=by
 go_enter Tryz.func197,Tryz.ntmps197
 go_wp2
 refine wp_loop_rounds 1 ?_
 rw [rounds_succ]
 go_wp2
 go_end0
 exact ⟨rfl,rfl⟩
theorem stable_nil (cx:Nat) (w:World):Calls Tryz.prog 194 #[.slice none 0 0,.int .i64 0,.func (.func 187) #[] #[.pointer (some ⟨cx,0,none⟩)]] w fun e w'=>e = .returned (.tuple #[])∧w'=w:=by
 go_enter Tryz.func194,Tryz.ntmps194
 go_wp2
 refine wp_loop_rounds 1 ?_
 rw [rounds_succ]
 go_wp2_with (go_at_call 197;refine (insertion_nil cx _).mono ?_;rintro e w' ⟨rfl,rfl⟩)
 refine wp_loop_rounds 1 ?_
 rw [rounds_succ]
 go_wp2
 go_end0
 exact ⟨rfl,rfl⟩
theorem sort_nil (cx:Nat) (w:World):Calls Tryz.prog 186 #[.slice none 0 0,.func (.func 187) #[] #[.pointer (some ⟨cx,0,none⟩)]] w fun e w'=>e = .returned (.tuple #[])∧w'=w:=by
 go_enter Tryz.func186,Tryz.ntmps186
 go_wp2_with (go_at_call 194;refine (stable_nil cx _).mono ?_;rintro e w' ⟨rfl,rfl⟩)
 go_end0
 exact ⟨rfl,rfl⟩
theorem cells_1 (w:World) (e:TypeId) (u:Value):CellsAt (w.alloc (.cells #[u] e)) (.slice (some ⟨w.heap.size,0,none⟩) 1 1) 1 [u]:=by
 refine .inr ⟨_,1,rfl,fun j x hx=>?_⟩
 rw [Addr.add_lit,Nat.zero_add,(Blk.made w e _).cell]
 have:j<1:=(List.getElem?_eq_some_iff.1 hx).1
 obtain rfl:j=0:=by omega
 simpa using hx
def usd (ns:List Nat) (k:Nat):List Nat:=(List.range k).filter fun s=>decide (0<ns.getD s 0)
theorem usd_succ (ns:List Nat) (k:Nat):usd ns (k+1)=if 0<ns.getD k 0 then usd ns k++[k] else usd ns k:=by
 unfold usd
 rw [List.range_succ,List.filter_append,List.filter_cons,List.filter_nil]
 by_cases h:0<ns.getD k 0
 ·rw [if_pos h,if_pos (decide_eq_true h)]
 ·rw [if_neg h,if_neg (by rw [decide_eq_false h];simp),List.append_nil]
theorem usd_len (ns:List Nat) (k:Nat):(usd ns k).length≤k:=by
 have:=List.length_filter_le (fun s=>decide (0<ns.getD s 0)) (List.range k)
 simpa [usd] using this
theorem usd_mem {ns:List Nat} {k s:Nat}:s∈usd ns k↔s<k∧0<ns.getD s 0:=by simp [usd]
structure Used (ns us:List Nat):Prop where
 perm:us.Perm (usd ns ns.length)
 up:Up (cts ns us)
 lex:us.Pairwise fun a b=>ns.getD a 0<ns.getD b 0∨(ns.getD a 0=ns.getD b 0∧a≤b)
theorem Used.mem {ns us:List Nat} (h:Used ns us) {s:Nat}:s∈us↔s<ns.length∧0<ns.getD s 0:=by rw [h.perm.mem_iff,usd_mem]
theorem Used.nodup {ns us:List Nat} (h:Used ns us):us.Nodup:=h.perm.nodup_iff.2 (List.Nodup.sublist List.filter_sublist List.nodup_range)
def UsedTo (ns:List Nat) (w:World) (e:Ending) (w':World):Prop:=
 ∃ bo cu us,e = .returned (.slice bo us.length cu)∧Used ns us∧IS w' bo (ints us)∧Below w.heap.size w w'∧∀ b off,bo=some ⟨b,off,none⟩→w.heap.size≤b∧b<w'.heap.size
theorem used_of_sorted {ns:List Nat} {d':Array Nat} (hp:PermIn 0 (usd ns ns.length).toArray.size (usd ns ns.length).toArray d') (hn:ns.length≤1024) (ha:Asc (kz fun s=>(ns.getD s 0:Int)) d' 0 (usd ns ns.length).toArray.size):Used ns d'.toList:=by
 obtain ⟨h1,_,h3⟩:=hp
 have e1:d'.extract 0 (usd ns ns.length).toArray.size=d':=by rw [←h1];simp
 have e2:(usd ns ns.length).toArray.extract 0 (usd ns ns.length).toArray.size=(usd ns ns.length).toArray:=by simp
 rw [e1,e2] at h3
 have hm:∀ x∈d'.toList,x<ns.length:=fun x hx=>by
  have h5:d'.toList.Perm (usd ns ns.length):=by simpa using h3
  exact (usd_mem.1 (h5.mem_iff.1 hx)).1
 have hl:d'.toList.Pairwise fun a b=>ns.getD a 0<ns.getD b 0∨(ns.getD a 0=ns.getD b 0∧a≤b):=List.pairwise_iff_getElem.2 fun i j hi hj hij=>by
  have hi':i<d'.size:=by simpa using hi
  have hj':j<d'.size:=by simpa using hj
  have:=ha i j (Nat.zero_le _) (by omega) (by rw [←h1];exact hj')
  rw [getElem!_pos d' i hi',getElem!_pos d' j hj'] at this
  have b1:=hm d'[i] (by simp)
  have b2:=hm d'[j] (by simp)
  have h5:(ns.getD d'[i] 0:Int)*1024+(d'[i]:Nat)≤(ns.getD d'[j] 0:Int)*1024+(d'[j]:Nat):=this
  rw [Array.getElem_toList,Array.getElem_toList]
  omega
 refine ⟨by simpa using h3,?_,hl⟩
 unfold Up cts
 rw [List.pairwise_map]
 exact hl.imp fun h=>by omega
set_option maxHeartbeats 4000000 in
theorem used_any (ao:Option Addr) (c:Nat) (ns:List Nat) (w:World) (h:IS w ao (ints ns)) (hl:ns.length≤320) :
  Calls Tryz.prog 176 #[.slice ao ns.length c] w (UsedTo ns w):=by
 have HI:=Lib.hid h
 clear h
 go_enter Tryz.func176,Tryz.ntmps176
 go_wp2
 obtain ⟨cx,hcx⟩:∃ cx,cx=w.heap.size:=⟨_,rfl⟩
 have HCX:=Lib.hid hcx
 have H0:Hid (Blk (w.alloc (.cells #[.slice ao ns.length c] 40)) cx 40 #[.slice ao ns.length c]∧Below w.heap.size w (w.alloc (.cells #[.slice ao ns.length c] 40))∧(w.alloc (.cells #[.slice ao ns.length c] 40)).ownsRow (cx+1) 3 1 (.slice none 0 0) (usd ns 0).length (iv (ints (usd ns 0)))∧cx+1≤(w.alloc (.cells #[.slice ao ns.length c] 40)).heap.size):=
  Lib.hid ⟨by rw [hcx];exact Blk.made _ _ _,(Below.refl _ w).alloc (Nat.le_refl _) _,World.ownsRow_nil _ _ _ _,by rw [hcx];simp⟩
 rw [←hcx]
 clear hcx
 go_loopw [3,8] (fun v iv' wr=>∃ (k:Nat) (bo:Option Addr) (cu:Nat),k≤ns.length∧iv' = .int .i64 k∧v = .slice bo (usd ns k).length cu∧Blk wr cx 40 #[.slice ao ns.length c]∧Below w.heap.size w wr∧wr.ownsRow (cx+1) 3 1 (.slice bo (usd ns k).length cu) (usd ns k).length (iv (ints (usd ns k)))∧cx+1≤wr.heap.size) (fun _ iv' _=>ns.length-(intOf iv').toNat)
 case atStart=>exact ⟨0,none,0,Nat.zero_le _,rfl,rfl,H0.out⟩
 case round=>
  obtain ⟨k,bo,cu,hk,rfl,rfl,hbx,hb,hown,hcs⟩:=hrel
  have HBX:=Lib.hid hbx
  have HB:=Lib.hid hb
  have HO:=Lib.hid hown
  have hul:=usd_len ns k
  clear hbx hb hown H0
  by_cases hlt:k<ns.length
  ·have hkk:(k:Int)<ns.length:=by omega
   obtain ⟨b1,o1,rfl,q1⟩:=(HI.out.below HB.out).nat hlt
   obtain ⟨x,hx⟩:∃ x,x=ns.getD k 0:=⟨_,rfl⟩
   have HU:=Lib.hid (usd_succ ns k)
   rw [←hx] at q1 HU
   obtain ⟨P,hP⟩:∃ P,P=usd ns k:=⟨_,rfl⟩
   rw [←hP] at HO HU hul ⊢
   by_cases h0:0<x
   ·have h0':(0:Int)<x:=by omega
    rw [if_pos h0] at HU
    clear hP hx
    go_wp2_with (refine wpList_append_g at22 rfl (.tmp 15) (.tmp 17) rfl (cx+1) (.slice bo P.length cu) (.slice (some ⟨wr.heap.size,0,none⟩) 1 1) P.length 1 (iv (ints P)) [.int .i64 (k:Nat)] rfl rfl (World.ownsRow.alloc (w:=wr) HO.out _) (cells_1 wr 3 _) rfl (by simp [Value.oneCell']) (by simp;omega) (by omega) (by omega) ?_;intro ao2 cc2 w3 hA;have HA:=Lib.hid hA;clear hA)
    go_roundw
    case rel=>
     have hlen:(usd ns (k+1)).length=P.length+1:=by rw [HU.out];simp
     have hA:=HA.out
     have hBe:=hA.below (World.ownsRow.alloc (w:=wr) HO.out _) (by simp;omega)
     have tA:Touch (fun _=>False) wr (wr.alloc (.cells #[.int .i64 (k:Nat)] 3)):=(Touch.refl _ wr).alloc _
     refine ⟨k+1,ao2,cc2,by omega,by go_num,by rw [hlen],?_,?_,?_,?_⟩
     ·exact (HBX.out.touch tA (fun h=>h)).low hBe (by omega)
     ·exact (HB.out.alloc HB.out.size _).trans (hBe.mono (by rw [←HCX.out];omega))
     ·have:=hA.own
      rw [hlen,HU.out]
      rw [show iv (ints (P++[k]))=iv (ints P)++[.int .i64 (k:Nat)] by simp [iv,ints]]
      exact this
     ·exact Nat.le_trans hcs (Nat.le_trans (by simp) hBe.size)
    case measure=>simp [intOf];omega
   ·have h0':(x:Int)≤0:=by omega
    rw [if_neg h0] at HU
    clear hP hx
    go_wp2
    go_roundw
    case rel=>exact ⟨k+1,bo,cu,by omega,by go_num,by rw [HU.out],HBX.out,HB.out,by rw [HU.out];exact HO.out,hcs⟩
    case measure=>simp [intOf];omega
  ·have hk':k=ns.length:=by omega
   subst hk'
   rcases HO.out.2 with ⟨e,h0⟩ | ⟨g,cap,cur,e,hbg,hh,hnc,hcm,hcs2,htake⟩
   ·simp only [Value.slice.injEq] at e
    obtain ⟨rfl,_,rfl⟩:=e
    have he:usd ns ns.length=[]:=List.eq_nil_of_length_eq_zero h0
    rw [h0]
    go_wp2_with (go_at_call 186;refine (sort_nil cx _).mono ?_;rintro e w' ⟨rfl,rfl⟩)
    go_ret
    exact ⟨none,0,[],rfl,⟨by rw [he],by simp [cts,Up],List.Pairwise.nil⟩,.inl rfl,HB.out,fun b off e=>by cases e⟩
   ·simp only [Value.slice.injEq] at e
    obtain ⟨rfl,_,rfl⟩:=e
    obtain ⟨d,hd⟩:∃ d,d=(usd ns ns.length).toArray:=⟨_,rfl⟩
    have hds:d.size=(usd ns ns.length).length:=by rw [hd];simp
    have hS:Srt wr g ns.length d wr:=by
     refine ⟨fun i hi=>?_,fun i hi=>?_,Touch.refl _ _,(Array.getElem?_eq_some_iff.1 hh).1,fun i hi=>?_⟩
     ·have h5:=World.ownsRow.cellAt HO.out i (by omega)
      rw [h5,iv_at _ i (by rw [ints_len];omega),ints_at,getElem!_pos d i hi]
      have h6:d[i]=(usd ns ns.length).getD i 0:=by simp [hd,List.getD,show i<(usd ns ns.length).length by omega]
      rw [h6]
     ·have hh':Blk wr g 3 cur:=hh
      exact hh'.free i
     ·rw [getElem!_pos d i hi]
      have h6:d[i]∈usd ns ns.length:=by simp [hd]
      exact (usd_mem.1 h6).1
    have hgw:w.heap.size≤g:=by rw [←HCX.out];omega
    have hC:Cmp (fun s=>(ns.getD s 0:Int)) ns.length cx g wr:=⟨by omega,fun W hT x y hx hy=>by
     have h1:=(HBX.out.touch hT (by omega)).cell 0
     have h2:IS W ao (ints ns):=(HI.out.below HB.out).touch hT fun b off e hne=>by
      rcases HI.out with h | ⟨b',off',rfl,hc⟩
      ·exact absurd h hne
      ·have e':=Option.some.inj e
       simp only [Addr.mk.injEq] at e'
       have h7:=World.block_lt_of_cell? w ⟨b',off'+0,none⟩ (hc 0 (by rw [ints_len];omega))
       have h8:b'<w.heap.size:=h7
       omega
     obtain ⟨b1,o1,rfl,q1⟩:=h2.nat hx
     obtain ⟨b2,o2,e2,q2⟩:=h2.nat hy
     obtain ⟨rfl,rfl⟩:b1=b2∧o1=o2:=by simpa using e2
     exact less_any cx b1 o1 c ns.length _ _ x y hx hy W h1 q1 q2⟩
    have hT:Stb (fun s=>(ns.getD s 0:Int)) d:=fun i j hij hj _=>by
     rw [getElem!_pos d i (by omega),getElem!_pos d j hj]
     have hp:(usd ns ns.length).Pairwise (· < ·):=List.Pairwise.filter _ List.pairwise_lt_range
     subst hd
     have:=List.pairwise_iff_getElem.1 hp i j (by simpa using (show i<_ by omega)) (by simpa using hj) hij
     simp only [List.getElem_toArray]
     omega
    have HR:=Lib.hid (sortStable_any _ cx g ns.length cu d wr wr hC hS hT (by omega))
    rw [hds] at HR
    have HD:=Lib.hid hd
    have hgl:g<wr.heap.size:=(Array.getElem?_eq_some_iff.1 hh).1
    clear hS hC hT hh htake hcs2 hds hd
    go_wp2_with (go_at_call 186;(with_reducible refine HR.out.mono ?_);rintro e w' ⟨rfl,d',hR1⟩;have HR1:=Lib.hid hR1;clear hR1)
    go_ret
    have hU:Used ns d'.toList:=by
     refine used_of_sorted ?_ (by omega) ?_
     ·rw [←HD.out];exact HR1.out.perm
     ·rw [←HD.out];exact HR1.out.asc
    have hl':(usd ns ns.length).length=d'.toList.length:=hU.perm.length_eq.symm
    refine ⟨some ⟨g,0,none⟩,cu,d'.toList,by rw [←hl'];rfl,hU,.inr ⟨g,0,rfl,fun j hj=>?_⟩,?_,fun b off e=>?_⟩
    ·rw [ints_len] at hj
     have hj':j<d'.size:=by simpa using hj
     have h9:=HR1.out.s.cell j hj'
     rw [Nat.zero_add,h9,ints_at,getElem!_pos d' j hj']
     simp [List.getD,hj']
    ·exact HB.out.trans (HR1.out.s.touch.below HB.out.size fun k hk=>by omega)
    ·cases e
     exact ⟨hgw,Nat.lt_of_lt_of_le hgl HR1.out.s.touch.size⟩
end
section
open Go.RowKit
def Bad (l m n:Int):Prop:=n<l∨m<n
instance (l m n:Int):Decidable (Bad l m n):=inferInstanceAs (Decidable (_∨_))
structure Kept (w:World) (p q:Nat) (l m:Int):Prop where
 lo:w.cell? ⟨p,0,none⟩=some (.int .i64 l)
 hi:w.cell? ⟨q,0,none⟩=some (.int .i64 m)
def fnOut (p q:Nat):Value := .func (.func 185) #[] #[.pointer (some ⟨p,0,none⟩),.pointer (some ⟨q,0,none⟩)]
def MadeOut (l m:Int) (w:World) (e:Ending) (w':World):Prop:=∃ p q,e = .returned (fnOut p q)∧Kept w' p q l m∧Below w.heap.size w w'∧w.heap.size≤p∧w.heap.size≤q
theorem outside_any (l m:Int) (w:World):Calls Tryz.prog 174 #[.int .i64 l,.int .i64 m] w (MadeOut l m w):=by
 go_enter Tryz.func174,Tryz.ntmps174
 go_wp2
 go_ret
 refine ⟨_,_,rfl,?_,((Below.refl _ w).alloc (Nat.le_refl _) _).alloc (by simp) _,Nat.le_refl _,by simp⟩
 exact ⟨by simp,by simp⟩
theorem bad_yes (p q:Nat) (l m n:Int) (w:World) (hK:Kept w p q l m) (h:Bad l m n) :
  Calls Tryz.prog 185 #[.int .i64 n,.pointer (some ⟨p,0,none⟩),.pointer (some ⟨q,0,none⟩)] w fun e w'=>e = .returned (.bool true)∧w'=w:=by
 have h1:=hK.lo
 have h2:=hK.hi
 clear hK
 by_cases c:n<l
 ·go_enter Tryz.func185,Tryz.ntmps185
  go_wp2
  go_ret
  exact ⟨rfl,rfl⟩
 ·have c2:m<n:=by rcases h with h | h;exact absurd h c;exact h
  have c':l≤n:=Int.not_lt.mp c
  clear h c
  go_enter Tryz.func185,Tryz.ntmps185
  go_wp2
  go_ret
  exact ⟨rfl,rfl⟩
theorem bad_no (p q:Nat) (l m n:Int) (w:World) (hK:Kept w p q l m) (h:¬Bad l m n) :
  Calls Tryz.prog 185 #[.int .i64 n,.pointer (some ⟨p,0,none⟩),.pointer (some ⟨q,0,none⟩)] w fun e w'=>e = .returned (.bool false)∧w'=w:=by
 have h1:=hK.lo
 have h2:=hK.hi
 have c1:l≤n:=Int.not_lt.mp fun c=>h (.inl c)
 have c2:n≤m:=Int.not_lt.mp fun c=>h (.inr c)
 clear hK h
 have d2:decide (m<n)=false:=decide_eq_false (by omega)
 have d1:decide (n<l)=false:=decide_eq_false (by omega)
 go_enter Tryz.func185,Tryz.ntmps185
 go_wp2
 go_ret
 exact ⟨rfl,rfl⟩
set_option maxHeartbeats 800000 in
theorem index_no (ao:Option Addr) (c p q:Nat) (l m:Int) (zs:List Int) (w:World) (hl:zs.length≤1000) (h:IS w ao zs) (hK:Kept w p q l m) (hg:∀ z∈zs,¬Bad l m z) :
  Calls Tryz.prog 72 #[.slice ao zs.length c,fnOut p q] w fun e w'=>e = .returned (.int .i64 (-1))∧w'=w:=by
 have HI:=Lib.hid h
 have HK:=Lib.hid hK
 have HG:=Lib.hid hg
 clear h hK hg
 unfold fnOut
 go_enter Tryz.func72,Tryz.ntmps72
 go_wp2
 go_loop [8] (fun i=>∃ k:Nat,k≤zs.length∧i = .int .i64 k) (fun i=>zs.length-(intOf i).toNat)
 case atStart=>exact ⟨0,Nat.zero_le _,rfl⟩
 case round=>
  obtain ⟨k,hk,rfl⟩:=hrel
  by_cases hlt:k<zs.length
  ·have hkk:(k:Int)<zs.length:=by omega
   obtain ⟨b,off,rfl,hcell⟩:=HI.out.at hlt
   have HB:=Lib.hid (HG.out _ (getD_mem hlt))
   obtain ⟨x,hx⟩:∃ x,x=zs.getD k 0:=⟨_,rfl⟩
   rw [←hx] at hcell HB
   clear hx
   go_wp2_with (go_at_call 185;(refine (bad_no p q l m x _ HK.out HB.out).mono ?_);rintro e w' ⟨rfl,rfl⟩)
   go_round
   case rel=>exact ⟨k+1,by omega,by go_num⟩
   case measure=>simp [intOf];omega
  ·have hk':k=zs.length:=by omega
   subst hk'
   go_wp2
   go_ret
   exact ⟨rfl,rfl⟩
set_option maxHeartbeats 800000 in
theorem index_yes (ao:Option Addr) (c p q:Nat) (l m:Int) (zs:List Int) (w:World) (hl:zs.length≤1000) (h:IS w ao zs) (hK:Kept w p q l m) (hg:∃ z∈zs,Bad l m z) :
  Calls Tryz.prog 72 #[.slice ao zs.length c,fnOut p q] w fun e w'=>(∃ k:Nat,e = .returned (.int .i64 k))∧w'=w:=by
 have HI:=Lib.hid h
 have HK:=Lib.hid hK
 have HG:=Lib.hid hg
 clear h hK hg
 unfold fnOut
 go_enter Tryz.func72,Tryz.ntmps72
 go_wp2
 go_loop [8] (fun i=>∃ k:Nat,k≤zs.length∧i = .int .i64 k∧∀ j,j<k→¬Bad l m (zs.getD j 0)) (fun i=>zs.length-(intOf i).toNat)
 case atStart=>exact ⟨0,Nat.zero_le _,rfl,fun j hj=>absurd hj (Nat.not_lt_zero j)⟩
 case round=>
  obtain ⟨k,hk,rfl,hj⟩:=hrel
  have HJ:=Lib.hid hj
  clear hj
  by_cases hlt:k<zs.length
  ·have hkk:(k:Int)<zs.length:=by omega
   obtain ⟨b,off,rfl,hcell⟩:=HI.out.at hlt
   obtain ⟨x,hx⟩:∃ x,x=zs.getD k 0:=⟨_,rfl⟩
   have HX:=Lib.hid hx
   rw [←hx] at hcell
   clear hx
   by_cases hb:Bad l m x
   ·have HB:=Lib.hid hb
    clear hb
    go_wp2_with (go_at_call 185;(refine (bad_yes p q l m x _ HK.out HB.out).mono ?_);rintro e w' ⟨rfl,rfl⟩)
    go_ret
    exact ⟨⟨k,rfl⟩,rfl⟩
   ·have HB:=Lib.hid hb
    clear hb
    go_wp2_with (go_at_call 185;(refine (bad_no p q l m x _ HK.out HB.out).mono ?_);rintro e w' ⟨rfl,rfl⟩)
    go_round
    case rel=>
     refine ⟨k+1,by omega,by go_num,fun j hj=>?_⟩
     by_cases e:j=k
     ·subst e;rw [←HX.out];exact HB.out
     ·exact HJ.out j (by omega)
    case measure=>simp [intOf];omega
  ·exfalso
   obtain ⟨z,hz,hb⟩:=HG.out
   obtain ⟨j,hj,rfl⟩:=List.getElem_of_mem hz
   have:=HJ.out j (by omega)
   simp [List.getD,hj] at this
   exact this hb
def anyBad (l m:Int) (zs:List Int):Bool:=zs.any fun z=>decide (Bad l m z)
theorem contains_any (ao:Option Addr) (c p q:Nat) (l m:Int) (zs:List Int) (w:World) (hl:zs.length≤1000) (h:IS w ao zs) (hK:Kept w p q l m) :
  Calls Tryz.prog 175 #[.slice ao zs.length c,fnOut p q] w fun e w'=>e = .returned (.bool (anyBad l m zs))∧w'=w:=by
 by_cases hg:∃ z∈zs,Bad l m z
 ·have HR:=Lib.hid (index_yes ao c p q l m zs w hl h hK hg)
  have e:anyBad l m zs=true:=by
   obtain ⟨z,hz,hb⟩:=hg
   unfold anyBad
   rw [List.any_eq_true]
   exact ⟨z,hz,decide_eq_true hb⟩
  rw [e]
  clear h hK hg e
  unfold fnOut at HR ⊢
  go_enter Tryz.func175,Tryz.ntmps175
  go_wp2_with (go_at_call 72;(with_reducible refine HR.out.mono ?_);rintro e w' ⟨⟨k,rfl⟩,rfl⟩)
  go_ret
  exact ⟨by simp,rfl⟩
 ·have HR:=Lib.hid (index_no ao c p q l m zs w hl h hK fun z hz hb=>hg ⟨z,hz,hb⟩)
  have e:anyBad l m zs=false:=by
   unfold anyBad
   rw [List.any_eq_false]
   intro z hz hb
   exact hg ⟨z,hz,of_decide_eq_true hb⟩
  rw [e]
  clear h hK hg e
  unfold fnOut at HR ⊢
  go_enter Tryz.func175,Tryz.ntmps175
  go_wp2_with (go_at_call 72;(with_reducible refine HR.out.mono ?_);rintro e w' ⟨rfl,rfl⟩)
  go_ret
  exact ⟨by simp,rfl⟩
def maxC:Int:=1099511627776
def Wrong (zs:List Int) (limit:Int):Prop:=320<zs.length∨anyBad 0 maxC zs=true∨Bad 1 15 limit
def No (er:Int) (w:World) (e:Ending) (w':World):Prop:=e = .returned (.tuple #[.slice none 0 0,.int .i64 er])∧Below w.heap.size w w'
set_option maxHeartbeats 4000000 in
set_option maxRecDepth 100000 in
theorem build_wrong (ao:Option Addr) (c:Nat) (zs:List Int) (limit:Int) (w:World) (h:IS w ao zs) (hw:Wrong zs limit) :
  Calls Tryz.prog 161 #[.slice ao zs.length c,.int .i64 limit] w (No 11 w):=by
 have HI:=Lib.hid h
 clear h
 by_cases c1:320<zs.length
 ·have c1':(320:Int)<zs.length:=by omega
  clear hw
  go_enter Tryz.func161,Tryz.ntmps161
  go_wp2_with (first
   | (go_at_call 174;refine (outside_any _ _ _).mono ?_;rintro e w1 ⟨p,q,rfl,hk,hb,hp,hq⟩;have HK:=Lib.hid hk;have HB:=Lib.hid hb;clear hk hb))
  go_ret2
  exact ⟨rfl,HB.out⟩
 ·have c1':decide ((320:Int)<zs.length)=false:=by simp;omega
  have c1'':(zs.length:Int)≤320:=by omega
  cases hb:anyBad 0 maxC zs with
  | true=>
   have HBD:=Lib.hid hb
   clear hw hb
   go_enter Tryz.func161,Tryz.ntmps161
   go_wp2_with (first
    | (go_at_call 174;refine (outside_any _ _ _).mono ?_;rintro e w1 ⟨p,q,rfl,hk,hb,hp,hq⟩;have HK:=Lib.hid hk;have HB:=Lib.hid hb;clear hk hb;unfold fnOut)
    | (go_at_call 175;refine (contains_any ao c p q 0 maxC zs w1 (by omega) (HI.out.below HB.out) HK.out).mono ?_;rintro e w2 ⟨rfl,rfl⟩;rw [HBD.out]))
   go_ret2
   exact ⟨rfl,HB.out⟩
  | false=>
   have hbad:Bad 1 15 limit:=by
    rcases hw with h | h | h
    ·exact absurd h c1
    ·rw [hb] at h;cases h
    ·exact h
   have HBD:=Lib.hid hb
   have HLB:=Lib.hid hbad
   clear hw hb hbad
   go_enter Tryz.func161,Tryz.ntmps161
   go_upto_region 2 with (go_at_call 174;refine (outside_any _ _ _).mono ?_;rintro e w1 ⟨p,q,rfl,hk,hb,hp,hq⟩;have HK:=Lib.hid hk;have HB:=Lib.hid hb;clear hk hb;unfold fnOut)
   go_wp2_with (first
    | (go_at_call 175;refine (contains_any ao c p q 0 maxC zs w1 (by omega) (HI.out.below HB.out) HK.out).mono ?_;rintro e w2 ⟨rfl,rfl⟩;rw [HBD.out])
    | (go_at_call 174;refine (outside_any 1 15 _).mono ?_;rintro e w3 ⟨p2,q2,rfl,hk2,hb2,hp2,hq2⟩;have HK2:=Lib.hid hk2;have HB2:=Lib.hid hb2;clear hk2 hb2;unfold fnOut)
    | (go_at_call 185;refine (bad_yes p2 q2 1 15 limit _ HK2.out HLB.out).mono ?_;rintro e w4 ⟨rfl,rfl⟩))
   go_ret2
   exact ⟨rfl,HB.out.trans (HB2.out.mono HB.out.size)⟩
structure Fine (zs:List Int) (lim:Nat):Prop where
 len:zs.length≤320
 all:∀ z∈zs,0≤z∧z≤maxC
 lim:1≤lim∧lim≤15
theorem Fine.nobad {zs:List Int} {lim:Nat} (h:Fine zs lim):anyBad 0 maxC zs=false:=by
 unfold anyBad
 rw [List.any_eq_false]
 intro z hz hb
 have:=h.all z hz
 rcases of_decide_eq_true hb with h1 | h1 <;> omega
theorem Fine.ints {zs:List Int} {lim:Nat} (h:Fine zs lim):YtacpfpghokcdlaaGreatDoor.Y.ints (nat zs)=zs:=by
 unfold YtacpfpghokcdlaaGreatDoor.Y.ints nat
 rw [List.map_map]
 conv=>rhs;rw [←List.map_id zs]
 apply List.map_congr_left
 intro z hz
 have:=(h.all z hz).1
 simp only [Function.comp,id]
 omega
def lenG (cs:List Nat) (D:Nat):Nat→Nat:=if cs.length=1 then fun _=>1 else la (top cs D)
def Built (zs:List Int) (lim:Nat) (w:World) (e:Ending) (w':World):Prop:=
 ∃ g us,e = .returned (.tuple #[.slice (some ⟨g,0,none⟩) zs.length zs.length,.int .i64 0])∧Used (nat zs) us∧us.length≤2^lim∧Blk w' g 3 (ia zs.length (LF us (lenG (cts (nat zs) us) (lim-1))))∧Below w.heap.size w w'∧w.heap.size≤g
theorem row_ne {cs:List Nat} (h:2≤cs.length) (k:Nat):row cs k≠[]:=fun e=>by
 have:=row_len_ge cs k
 rw [e,List.length_nil] at this
 omega
theorem rows_apart {W:World} {gl N b off j:Nat} {f:Nat→Nat} {ao:Option Addr} {cs:List Nat} (hA:Blk W gl 3 (ia N f)) (h:CS W ao (row cs j)) (e:ao=some ⟨b,off,none⟩) (h2:2≤cs.length):b≠gl:=by
 rcases h with h | ⟨b',off',rfl,hc⟩
 ·exact absurd h (row_ne h2 j)
 ·have e':=Option.some.inj e
  simp only [Addr.mk.injEq] at e'
  rw [←e'.1]
  exact coins_apart hA hc (row_ne h2 j)
theorem Rst.split {w W:World} {cs:List Nat} {k c5:Nat} {a5:Option Addr} (h:Rst w W cs k (.slice a5 k c5)) (hk:1≤k) :
  ∃ (g:Nat) (rs:Nat→Sv),a5=some ⟨g,0,none⟩∧w.heap.size≤g∧g<W.heap.size∧(∀ j,j<k→W.cell? ⟨g,j,none⟩=some (sv (rs j)))∧
   ∀ j,j<k→(rs j).2.1=(row cs j).length∧(row cs j).length≤(rs j).2.2∧CS W (rs j).1 (row cs j)∧∀ b off,(rs j).1=some ⟨b,off,none⟩→b<W.heap.size:=by
 obtain ⟨vals,ho,hv⟩:=h.own
 rcases ho.2 with ⟨e,h0⟩ | ⟨g,cap,cur,e,hbg,hh,hnc,hcm,hcs,htake⟩
 ·omega
 ·simp only [Value.slice.injEq] at e
  obtain ⟨rfl,_,rfl⟩:=e
  have hsv:∀ j,∃ x:Sv,j<k→vals[j]? = some (sv x)∧x.2.1=(row cs j).length∧(row cs j).length≤x.2.2∧CS W x.1 (row cs j)∧∀ b off,x.1=some ⟨b,off,none⟩→b<W.heap.size:=fun j=>by
   by_cases hj:j<k
   ·obtain ⟨ao,c,h1,h2⟩:=hv j hj
    exact ⟨(ao,(row cs j).length,c),fun _=>⟨h1,rfl,h2.room,h2.cs,fun b off e=>(h2.lt b off e).1⟩⟩
   ·exact ⟨(none,0,0),fun h=>absurd h hj⟩
  refine ⟨g,fun j=>Classical.choose (hsv j),rfl,hbg,(Array.getElem?_eq_some_iff.1 hh).1,fun j hj=>?_,fun j hj=>(Classical.choose_spec (hsv j) hj).2⟩
  rw [World.ownsRow.cellAt ho j (by omega)]
  exact (Classical.choose_spec (hsv j) hj).1
set_option maxHeartbeats 8000000 in
set_option maxRecDepth 100000 in
theorem build_fine (ao:Option Addr) (c:Nat) (zs:List Int) (lim:Nat) (w:World) (h:IS w ao zs) (hf:Fine zs lim) :
  Calls Tryz.prog 161 #[.slice ao zs.length c,.int .i64 lim] w fun e w'=>(2^lim<(usd (nat zs) zs.length).length∧No 14 w e w')∨Built zs lim w e w':=by
 have HI:=Lib.hid h
 have HF:=Lib.hid hf
 have HBD:=Lib.hid hf.nobad
 have HLB:Hid (¬Bad 1 15 (lim:Int)):=Lib.hid (by unfold Bad;have:=hf.lim;omega)
 have c1':decide ((320:Int)<zs.length)=false:=by simp;have:=hf.len;omega
 have c1'':(zs.length:Int)≤320:=by have:=hf.len;omega
 have hl1:=hf.lim.1
 have hl2:=hf.lim.2
 have HNL:Hid ((nat zs).length=zs.length):=Lib.hid (nat_len zs)
 clear h hf
 go_enter Tryz.func161,Tryz.ntmps161
 go_upto_region 2 with (go_at_call 174;refine (outside_any _ _ _).mono ?_;rintro e w1 ⟨p,q,rfl,hk,hb,hp,hq⟩;have HK:=Lib.hid hk;have HB:=Lib.hid hb;clear hk hb;unfold fnOut)
 go_upto_region 4 with (first
  | (go_at_call 175;refine (contains_any ao c p q 0 maxC zs w1 (by omega) (HI.out.below HB.out) HK.out).mono ?_;rintro e w2 ⟨rfl,rfl⟩;rw [HBD.out])
  | (go_at_call 174;refine (outside_any 1 15 _).mono ?_;rintro e w3 ⟨p2,q2,rfl,hk2,hb2,hp2,hq2⟩;have HK2:=Lib.hid hk2;have HB2:=Lib.hid (HB.out.trans (hb2.mono HB.out.size));clear hk2 hb2;unfold fnOut)
  | (go_at_call 185;refine (bad_no p2 q2 1 15 (lim:Int) _ HK2.out HLB.out).mono ?_;rintro e w4 ⟨rfl,rfl⟩))
 have HUS:=Lib.hid (used_any ao c (nat zs) w4 (by rw [HF.out.ints];exact HI.out.below HB2.out) (by rw [nat_len];exact HF.out.len))
 rw [nat_len] at HUS
 clear HK HK2 hp hq hp2 hq2 HBD HLB
 go_upto_region 5 with (go_at_call 176;(with_reducible refine HUS.out.mono ?_);rintro e w5 ⟨bo,cu,us,rfl,hU,hIS,hb5,hfr⟩;have HU:=Lib.hid hU;have HIS:=Lib.hid hIS;have HB5:=Lib.hid (HB2.out.trans (hb5.mono HB2.out.size));have HFR:=Lib.hid hfr;clear hU hIS hb5)
 go_upto_if 29 with fail
 obtain ⟨pw,hpw⟩:∃ pw,pw=2^lim:=⟨_,rfl⟩
 have hp2:pw≤32768:=by rw [hpw];exact Nat.le_trans (Nat.pow_le_pow_right (by omega) hl2) (Nat.le_refl (2^15))
 have epw:wrap64 ((2:Int)^lim)=pw:=by
  rw [show (2:Int)^lim=((2^lim:Nat):Int) by simp,←hpw]
  unfold wrap64
  omega
 have HPW:=Lib.hid hpw
 rw [epw]
 clear epw hpw
 have hul:(usd (nat zs) zs.length).length=us.length:=by rw [←HNL.out];exact HU.out.perm.length_eq.symm
 by_cases hmany:pw<us.length
 ·have hm':(pw:Int)<us.length:=by omega
  go_wp2
  go_ret2
  exact .inl ⟨by rw [←HPW.out,hul];exact hmany,rfl,HB5.out⟩
 ·have hm':decide ((pw:Int)<us.length)=false:=decide_eq_false (by omega)
  have hm2:(us.length:Int)≤pw:=by omega
  rw [hm']
  have HBU:Hid (us.length≤2^lim):=Lib.hid (by rw [←HPW.out];omega)
  have hus320:us.length≤320:=by rw [←hul];exact Nat.le_trans (usd_len _ _) HF.out.len
  obtain ⟨n,hn⟩:∃ n,n=zs.length:=⟨_,rfl⟩
  have HN:=Lib.hid hn
  rw [←hn] at c1'' hul ⊢
  clear hn
  have huN:Hid (∀ u∈us,u<n):=Lib.hid fun u hu=>by have:=(HU.out.mem.1 hu).1;rw [HNL.out,←HN.out] at this;exact this
  clear hm' hm2 hmany
  go_upto_region 8 with (refine wpList_make_z rfl 40 (.tmp 31) (.tmp 31) rfl 3 (.int .i64 0) 1 8 n Tryz.underlying40 (by kernel_rfl) .i64 .i64 n n rfl rfl rfl rfl (by omega) (by omega) ?_;intro W hb ht hs;have HS:=Lib.hid hs;clear hs)
  obtain ⟨gl,hgl⟩:∃ gl,gl=w5.heap.size:=⟨_,rfl⟩
  have HGL:=Lib.hid hgl
  have HA:Hid (Blk W gl 3 (ia n fun _=>0)):=Lib.hid (by
   rw [hgl]
   rw [show va (n*1) (fun i=>(Value.int .i64 0).cells[i%(Value.int .i64 0).cells.size]!)=ia n fun _=>0 by
    rw [Nat.mul_one]
    refine va_congr fun i _=>?_
    rw [show (Value.int .i64 0).cells = #[.int .i64 0] from rfl,show (#[Value.int .i64 0]:Array Value).size=1 from rfl,Nat.mod_one]
    rfl] at hb
   exact hb)
  have HBW:=Lib.hid (HB5.out.trans ((ht.none_below).mono HB5.out.size))
  have HIW:=Lib.hid (HIS.out.below ht.none_below)
  have HSW:Hid (gl<W.heap.size):=Lib.hid HA.out.lt
  have hwg:w.heap.size≤gl:=by rw [hgl];exact HB5.out.size
  rw [←hgl]
  clear hgl hb ht HIS
  by_cases h1:us.length=1
  ·obtain ⟨u,rfl⟩:∃ u,us=[u]:=List.length_eq_one_iff.1 h1
   have hun:u<n:=huN.out u (by simp)
   obtain ⟨b1,o1,rfl,q1⟩:=HIW.out.nat (k:=0) (by simp)
   rw [show List.getD [u] 0 0=u from rfl,Nat.add_zero] at q1
   have q2:=(HA.out.cell u).trans (va_at n _ u hun)
   have q3:=HA.out.free u
   have hun':(u:Int)<n:=by omega
   have H2:=Lib.hid (HA.out.setCell u (.int .i64 ((1:Nat):Int)))
   rw [ia_set n _ (LF [u] fun _=>1) u 1 (fun i _=>by unfold LF;by_cases e:i=u <;> simp [e])] at H2
   go_wp2
   go_ret2
   refine .inr ⟨gl,[u],by rw [←HN.out];rfl,HU.out,HBU.out,?_,HBW.out.setCell (p:=⟨gl,u,none⟩) hwg _,hwg⟩
   rw [←HN.out,lenG,if_pos (by rw [cts_len];rfl)]
   exact H2.out
  ·have h1':((us.length:Int) == 1)=false:=by simp;omega
   by_cases h2:1<us.length
   ·have h2':(1:Int)<us.length:=by omega
    have hcl:(cts (nat zs) us).length=us.length:=cts_len _ _
    obtain ⟨cs,hcs⟩:∃ cs,cs=cts (nat zs) us:=⟨_,rfl⟩
    have HCS:=Lib.hid hcs
    have HSG:=Lib.hid (singles_any ao bo c cu (nat zs) us W (by rw [HF.out.ints];exact HI.out.below HBW.out) HIW.out (by omega) (fun u hu=>by rw [HNL.out,←HN.out];exact huN.out u hu))
    rw [HNL.out,←HN.out,←hcs] at HSG
    rw [←hcs] at hcl
    have HFIT:Hid (Fit cs (lim-1)):=Lib.hid ⟨by rw [hcs];exact HU.out.up,by omega,by rw [hcl,show lim-1+1=lim by omega];exact HBU.out⟩
    have HMX:Hid (∀ x∈cs,x≤1099511627776):=Lib.hid fun x hx=>by
     rw [hcs] at hx
     obtain ⟨u,_,rfl⟩:=List.mem_map.1 hx
     have h3:=huN.out u (by assumption)
     have h4:=HF.out.all _ (getD_mem (zs:=zs) (k:=u) (by rw [←HN.out];exact h3))
     have h5:(nat zs).getD u 0=(zs.getD u 0).toNat:=nat_ln zs u
     rw [h5]
     unfold maxC at h4
     omega
    have hcl2:(sg cs).length=us.length:=by rw [sg_len];exact hcl
    clear hcs
    have hw5:w5.heap.size≤gl:=by rw [HGL.out];exact Nat.le_refl _
    have h5w:=hw5
    go_wp2_with fail
    with_reducible refine HSG.out.mono ?_
    rintro e w6 ⟨a6,c6,rfl,hCS,hb6,hroom,hnil,hfr6⟩
    have hsgl:(List.map (fun c=>(c,true)) cs).length=cs.length:=sg_len cs
    rw [hsgl] at hroom ⊢
    have HCS6:=Lib.hid hCS
    have HB6:=Lib.hid hb6
    have HRW:=Lib.hid (rows_any a6 c6 lim cs w6 hCS hnil hroom (by omega) (by omega) hl1 hl2 HMX.out)
    rw [hcl] at HRW
    clear hCS hb6 hroom hnil hfr6 hsgl HSG
    go_wp2_with fail
    with_reducible refine HRW.out.mono ?_
    rintro e w7 ⟨a5,c5,rfl,hRst⟩
    obtain ⟨g5,rs,rfl,hr1,hr2,hr3,hr4⟩:=hRst.split hl1
    have HB7:=Lib.hid (HB6.out.trans (hRst.below.mono HB6.out.size))
    have HA7:=Lib.hid (HA.out.below HB7.out)
    have hs7:gl<g5:=Nat.lt_of_lt_of_le HSW.out (Nat.le_trans HB6.out.size hr1)
    have hs8:gl<w7.heap.size:=HA7.out.lt
    have HLE:=Lib.hid (lengthen_any gl n bo cu g5 c5 lim rs cs us w7 hr3 (fun j hj=>⟨(hr4 j hj).1,(hr4 j hj).2.1,(hr4 j hj).2.2.1,fun b off e=>⟨(hr4 j hj).2.2.2 b off e,rows_apart HA7.out (hr4 j hj).2.2.1 e (by omega)⟩⟩) hr2 (by omega) HA7.out (HIW.out.below HB7.out)
     (fun b off e _=>by have h8:=(HFR.out b off e).2;omega) HU.out.nodup (by omega) huN.out hl1 hl2 HFIT.out (by omega))
    clear hRst hr1 hr2 hr3 hr4 hs7 hs8 HRW hw5 h5w
    go_wp2_with fail
    with_reducible refine HLE.out.mono ?_
    rintro e w8 ⟨rfl,hA8,hT8⟩
    have H8:=Lib.hid (And.intro hA8 hT8)
    clear hA8 hT8 HLE
    go_wp2
    go_ret2
    refine .inr ⟨gl,us,by rw [←HN.out];rfl,HU.out,HBU.out,?_,?_,hwg⟩
    ·rw [←HN.out,←HCS.out,lenG,if_neg (by omega)]
     exact H8.out.1
    ·exact (HBW.out.trans (HB7.out.mono HBW.out.size)).trans (H8.out.2.below (Nat.le_trans HBW.out.size HB7.out.size) fun k hk=>by omega)
   ·have h0:us=[]:=List.eq_nil_of_length_eq_zero (by omega)
    subst h0
    go_wp2
    go_ret2
    refine .inr ⟨gl,[],by rw [←HN.out];rfl,HU.out,HBU.out,?_,HBW.out,hwg⟩
    rw [←HN.out]
    rw [show LF [] (lenG (cts (nat zs) []) (lim-1))=fun _=>0 by funext s;unfold LF;simp]
    exact HA.out
def cst (ns ls:List Nat) (k:Nat):Nat:=sumr k fun i=>ns.getD i 0*ls.getD i 0
end
end Go.Proofs.YtacpfpghokcdlaaGreatDoor.Y
