/- Part 23. -/
import Derived.Test.YtacpfpghokcdlaaGreatDoorXB22
open Go.Proofs.Tryz
namespace Go.Proofs.YtacpfpghokcdlaaGreatDoor
set_option maxRecDepth 100000
section
open Go.Lib renaming hid → J
open Go.RowKit
def zml (S:List Nat→List Nat):Prop:=∀ (w:World) (v:Value) (bs:List Nat),zi w v bs→Bs bs→bs.length≤300000→Calls prog 16 #[v] w (Kept w (S bs))
theorem zdk {Tb:World→Prop}(A:Q2 Tb) (ao:Option Addr) (L c:Nat) (level:Int) (w:World) (hT:Tb w) (hL:L≤9223372036854775807) (hl:1500<L) :
  Calls prog 3 #[.slice ao L c,.int .i64 level] w fun e w'=>e=.returned (.bool true)∧Below w.heap.size w w':=by
 have HA:=J (A w hT);clear hT A;have hl':(1500:Int)<L:=by omega
 clear hl;go_enter func3,ntmps3;go_wp2_with fail
 refine HA.out.mono ?_;rintro e w1 ⟨rfl,hb1⟩;have HB:=J hb1;clear hb1;go_wp2;go_ret;exact ⟨by simp,HB.out⟩
set_option maxHeartbeats 3200000 in
theorem zek {Tb:World→Prop}{D:List Nat→Nat→List Nat}{S:List Nat→List Nat}(P:zkb Tb D S) (A:Q2 Tb) (RS:zml S) (ao:Option Addr) (c:Nat) (xs:List Nat) (level:Int) (w:World) (hT:Tb w) (h:zi w (.slice ao xs.length c) xs) (hb:Bs xs) (hl:xs.length≤1500) :
  Calls prog 3 #[.slice ao xs.length c,.int .i64 level] w fun e w'=>e=.returned (.bool true)∧Below w.heap.size w w':=by
 have HA:=J (A w hT);have HP:=J P;have HT:=J hT;have HS:=J h;have HB:=J hb;have HRS:=J RS;have e1:(xs.length:Int)≤1500:=by omega
 have HL:Hid (xs.length≤5000):=J (by omega);obtain ⟨p,hp⟩:=exq (D xs (lv level));have HPE:=J hp;obtain ⟨⟨hpb,hpl,a1,s1,l1,hi1,hu1,hj1⟩,hj2⟩:=P.back hb (by omega) (zjV level);rw [←hp] at hpb hpl hi1 hu1 hj2;have hbn:bnd xs.length≤1505:=by unfold bnd;omega
 have HPP:=J (show Bs p∧p.length≤100000∧p.length≤2000 from ⟨hpb,by omega,by omega⟩);have HI1:=J hi1;have HU1:=J hu1;obtain ⟨bd,hbd⟩:=exq (bnd xs.length);have HBD:=J hbd;rw [←hbd] at hj2;have hdb:decide ((bd:Int)<p.length)=false:=by simp;omega
 have hdb':decide (bd<p.length)=false:=by simp;omega
 have HZ:Hid (level≤0→p=S xs):=J fun hz=>by rw [hp,zcB hz];exact P.zero hb (by omega)
 have HX9:=J (show xs.length≤1000000000 by omega);clear hT h hb P A RS hp hpb hpl hi1 hu1 hj1 hj2 hbn hbd;go_enter func3,ntmps3;go_wp2_with fail
 refine HA.out.mono ?_;rintro e w1 ⟨rfl,hb1⟩;have B1:=J hb1;clear hb1;go_wp2_with fail
 refine (zgC (HS.out.grow B1.out) (by have:=HL.out;omega)).mono ?_;intro e w2 hk;obtain ⟨ao2,c2,rfl,hy2,hb2⟩:=hk.by
 have B2:=J (B1.out.on hb2);have O2:=J hy2;clear hk hy2 hb2 HA;go_wp2_with fail
 refine (HP.out.defl level (HP.out.keep HT.out B2.out) O2.out HB.out HL.out).mono ?_;rw [←HPE.out];intro e w3 hk;obtain ⟨ao3,c3,rfl,hy3,hb3⟩:=hk.by
 have B3:=J (B2.out.on hb3);have O3:=J (O2.out.grow hb3);have P3:=J hy3;clear hk hy3 hb3 O2;go_wp2_with fail
 refine (yz (limit:=(xs.length:Int)) P3.out HPP.out.1 HPP.out.2.1 (by omega) (HP.out.tab (HP.out.keep HT.out B3.out)) HI1.out HU1.out.symm rfl).mono ?_;rintro e w4 ⟨ao4,c4,rfl,bel4,an4⟩;have g4:=Below.more (Below.refl w4.heap.size w4) (Nat.le_refl _) (.cells #[.slice ao4 xs.length c4,.int .i64 (p.length:Nat),.int .i64 (s1:Nat),.int .i64 (l1:Nat)] 27);have B4:=J ((B3.out.on bel4).on g4);have O4:=J ((O3.out.grow bel4).grow g4);have P4:=J ((P3.out.grow bel4).grow g4);obtain ⟨q4,hq4⟩:=exq (w4.heap.size);obtain ⟨W4,hW4⟩:=exq (w4.alloc (.cells #[.slice ao4 xs.length c4,.int .i64 (p.length:Nat),.int .i64 (s1:Nat),.int .i64 (l1:Nat)] 27));have A4:Hid (Ans W4 q4 w3.heap.size (.slice ao4 xs.length c4) xs p.length s1 l1):=J (by rw [hW4,hq4];exact an4);rw [←hW4] at B4 O4 P4;clear bel4 an4 g4 O3 P3;go_upto_region 8 with fail
 rw [←hW4,←hq4];clear hW4 hq4;obtain ⟨k0,k1,k2,k3⟩:=A4.out.c;go_wp2_with fail
 refine (jh A4.out.by (HS.out.grow B4.out) HX9.out).mono ?_;rintro e w5 ⟨he,nq,hw5⟩;rw [decide_eq_true rfl] at he;subst he;have hb5:=below_drewN (Below.refl W4.heap.size W4) nq;rw [←hw5] at hb5;have B5:=J (B4.out.on hb5);have O5:=J (O4.out.grow hb5);have P5:=J (P4.out.grow hb5);have n1:=(A4.out.below hb5).c.2.1;clear hw5 hb5 k0 k1 k2 k3 A4 O4 P4 B4;go_wp2_with fail
 refine (HP.out.bound w5 xs.length (by omega)).mono ?_;rintro e w6 ⟨rfl,hb6⟩;rw [←HBD.out];have B6:=J (B5.out.on hb6);have O6:=J (O5.out.grow hb6);have P6:=J (P5.out.grow hb6);clear hb6 n1 O5 P5 B5;go_wp2_with fail
 refine (jh O6.out (HS.out.grow B6.out) HX9.out).mono ?_;rintro e w7 ⟨he,nq,hw7⟩;rw [decide_eq_true rfl] at he;subst he;have hb7:=below_drewN (Below.refl w6.heap.size w6) nq;rw [←hw7] at hb7;have B7:=J (B6.out.on hb7);have P7:=J (P6.out.grow hb7);clear hw7 hb7 O6 P6 B6;go_wp2_with fail
 refine (QX P7.out HPP.out.1 HPP.out.2.2 (xs.length:Int) xs.length (by simp) (by have:=HL.out;omega)).mono ?_;rintro e w8 ⟨hb8,pr,rv,ov,s,nb,er,rfl,hqs,hres⟩;rw [HI1.out] at hres;obtain ⟨rfl,hs⟩:er=0∧s=⟨a1,xs,s1,l1⟩:=by
  rcases hres with ⟨h1,_⟩ | ⟨h1,h2,_⟩
  ·cases h1
  ·cases h2;exact ⟨h1,rfl⟩
 subst hs;obtain ⟨ro,rc,rfl⟩:=zr hqs.own;have B8:=J (B7.out.on hb8);have P8:=J (P7.out.grow hb8);have R8:=J (zi.own hqs.own);have c2:=(hqs.blk.cell 2).trans (show _=some (Value.slice ro xs.length rc) from rfl);clear hb8 hqs hres P7 B7;go_wp2_with fail
 refine (jh R8.out (HS.out.grow B8.out) HX9.out).mono ?_;rintro e w9 ⟨he,nq,hw9⟩;rw [decide_eq_true rfl] at he;subst he;have hb9:=below_drewN (Below.refl w8.heap.size w8) nq;rw [←hw9] at hb9;have B9:=J (B8.out.on hb9);have P9:=J (P8.out.grow hb9);clear hw9 hb9 c2 R8 P8 B8;by_cases hz:level≤0
 ·have hz':decide (0<level)=false:=by simp;omega
  have HZ2:=J (HZ.out hz);clear HZ;go_wp2_with fail
  refine (HRS.out w9 _ xs (HS.out.grow B9.out) HB.out (by have:=HL.out;omega)).mono ?_;rw [←HZ2.out];intro e w10 hk;obtain ⟨ao5,c5,rfl,hy5,hb5⟩:=hk.by
  have B10:=J (B9.out.on hb5);have P10:=J (P9.out.grow hb5);have Y10:=J hy5;clear hk hy5 hb5;go_wp2_with fail
  refine (jh P10.out Y10.out (by have:=HPP.out.2.2;omega)).mono ?_;rintro e w11 ⟨he,nq,rfl⟩;rw [decide_eq_true rfl] at he;subst he;go_wp2;go_ret;exact ⟨rfl,below_drewN B10.out _⟩
 ·have hz':0<level:=by omega
  clear hz;go_wp2;go_ret;exact ⟨by simp,B9.out⟩
theorem zjM:∀ x,x<256→bits BinOp.xor IntKind.u8 IntKind.u8.max ((x:Nat):Int)=((255-x:Nat):Int):=by decide +kernel
def hd8 (last n:Nat):List Nat:=[last,n%256,n/256,255-n%256,255-n/256]
def uC:Nat→List Nat→List Nat
 | 0,_=>[]
 | fu+1,bs=>if bs.length≤65535 then hd8 1 bs.length++bs else hd8 0 65535++bs.take 65535++uC fu (bs.drop 65535)
def jY (bs:List Nat):List Nat:=uC (bs.length+1) bs
theorem zi.mid {w:World}{b off n c:Nat}{xs:List Nat}(h:zi w (.slice (some ⟨b,off,none⟩) n c) xs) (k m:Nat) (hk:k<xs.length) (hm:k+m≤xs.length):zi w (.slice (some ⟨b,off+k,none⟩) m (c-k)) ((xs.drop k).take m):=(h.drop k hk).take m (by rw [List.length_drop];omega)
structure Ds (w:World) (v:Value) (l:List Nat) (wr:World):Prop where
 own:wr.ownsRow w.heap.size 5 1 v l.length (u8s l)
 below:Below w.heap.size w wr
theorem Ds.grow {w wr w':World}{v:Value}{l:List Nat}(h:Ds w v l wr) (hb:Below wr.heap.size wr w'):Ds w v l w':=⟨ownsRow_below h.own hb,h.below.on hb⟩
theorem Ds.app {w wr w':World}{v v':Value}{l l':List Nat}(h:Ds w v l wr) (hA:Apd wr w.heap.size v l' v' w'):Ds w v' l' w':=
 ⟨hA.own,Apd.kept h.own h.below hA⟩
set_option maxHeartbeats 3200000 in
theorem zei (b off c:Nat) (xs:List Nat) (w:World) (h:zi w (.slice (some ⟨b,off,none⟩) xs.length c) xs) (hp:0<xs.length) (hl:xs.length≤300000) :
  Calls prog 16 #[.slice (some ⟨b,off,none⟩) xs.length c] w (Kept w (jY xs)):=by
 have HS:=J h;have HC:Hid (xs.length≤c):=J (by
  rcases h with ⟨h1,_⟩ | ⟨ad,c',h1,h2,_⟩
  ·cases h1
  ·cases h1;exact h2)
 obtain ⟨L,hL⟩:=exq (xs.length);have HL:=J hL;rw [←hL] at hl hp ⊢;have hLc:(L:Int)≤c:=by have:=HC.out;omega
 have hLcn:L≤c:=by omega
 clear h hL;go_enter func16,ntmps16;go_wp2;go_loopg [3,4] (L+1) (fun gm v3 v4 wr=>∃ (at_ n:Nat) (bo:Option Addr) (cu:Nat),at_≤L∧L+1-at_≤gm∧n≤2*at_+5*at_∧v3=.slice bo n cu∧v4=.int .i64 (at_:Nat)∧Hid (∃ (l:List Nat) (fu:Nat),l.length=n∧Ds w (.slice bo n cu) l wr∧((at_<L∧L-at_<fu∧l++uC fu (xs.drop at_)=jY xs)∨(at_=L∧l=jY xs))))
 case atStart=>exact ⟨0,0,_,_,Nat.zero_le _,Nat.le_refl _,by omega,rfl,rfl,J ⟨[],L+1,rfl,⟨JR w,(Below.refl w.heap.size w).more (Nat.le_refl _) _⟩,.inl ⟨hp,by omega,by rw [List.drop_zero,List.nil_append,HL.out];rfl⟩⟩⟩
 case round=>
  obtain ⟨at_,n,bo,cu,ha,hgm,hn7,rfl,rfl,HX⟩:=hrel;obtain ⟨l,fu,hln,hD,hc⟩:=HX.out;have HLN:=J hln;have HD:=J hD;rcases hc with ⟨h1,h2,h3⟩ | ⟨h1,h2⟩
  ·have h1':(at_:Int)<L:=by omega
   obtain ⟨f,rfl⟩:∃ f,fu=f+1:=⟨fu-1,by omega⟩;obtain ⟨m,hm⟩:=exq (L-at_);have e0:IntKind.i64.wrap ((L:Int)-at_)=(m:Int):=by rw [IntKind.wrap_i64];omega
   have e1:(L:Int)-at_=(m:Int):=by omega
   rw [uC] at h3;have hdl:(xs.drop at_).length=m:=by rw [List.length_drop,←HL.out,hm]
   rw [hdl] at h3;obtain ⟨la,k,hk1,hk2,hlk,hla,hS3⟩:∃ la k:Nat,k≤65535∧k=min m 65535∧1≤k∧(la=1∧k=m∨la=0∧k<m)∧(l++hd8 la k++(xs.drop at_).take k)++(if at_+k<L then uC f (xs.drop (at_+k)) else [])=jY xs:=by
    by_cases hm6:m≤65535
    ·rw [if_pos hm6] at h3
     refine ⟨1,m,hm6,by omega,by omega,.inl ⟨rfl,rfl⟩,?_⟩;rw [if_neg (by omega),List.append_nil,←h3,List.append_assoc,←hdl,List.take_length]
    ·rw [if_neg hm6] at h3
     refine ⟨0,65535,Nat.le_refl _,by omega,by omega,.inr ⟨rfl,by omega⟩,?_⟩;rw [if_pos (by omega),←h3,List.drop_drop];simp [List.append_assoc]
   have hmin:min (m:Int) 65535=(k:Int):=by omega
   obtain ⟨ak,hak⟩:=exq (at_+k);have e2:IntKind.i64.wrap ((at_:Int)+k)=(ak:Int):=by rw [IntKind.wrap_i64];omega
   have e3:(at_:Int)+k=(ak:Int):=by omega
   have hkl:at_+k≤L:=by omega
   have SRC:=J fun (W:World) (hW:Below w.heap.size w W)=>(HS.out.grow hW).mid at_ k (by rw [←HL.out];exact h1) (by rw [←HL.out];exact hkl)
   have HS3:=J hS3;have HAK:=J hak;have HFU:=J h2;obtain ⟨x0,hx0⟩:=exq (k%256);obtain ⟨x1,hx1⟩:=exq (k/256);obtain ⟨y0,hy0⟩:=exq (255-x0);obtain ⟨y1,hy1⟩:=exq (255-x1);have q0:(k:Int)%256=(x0:Int):=by omega
   have q1:(k:Int)/256=(x1:Int):=by omega
   have q2:(x1:Int)%256=(x1:Int):=by omega
   have z0:=zjM x0 (by omega);have z1:=zjM x1 (by omega);rw [←hy0] at z0;rw [←hy1] at z1;rw [hx0] at hy0;rw [hx1] at hy1;have Z0:=J (show bits BinOp.xor IntKind.u8 (if IntKind.u8.signed=true then -1 else IntKind.u8.max) (x0:Int)=(y0:Nat) from z0);have Z1:=J (show bits BinOp.xor IntKind.u8 (if IntKind.u8.signed=true then -1 else IntKind.u8.max) (x1:Int)=(y1:Nat) from z1);have HX0:=J hx0;have HX1:=J hx1;have HY0:=J hy0;have HY1:=J hy1;have b0:x0<256:=by omega
   have b1:x1<256:=by omega
   have D0:=J (HD.out.grow ((Below.refl wr.heap.size wr).more (Nat.le_refl _) (.cells #[.int .u8 (la:Nat),.int .u8 (x0:Nat),.int .u8 (x1:Nat),.int .u8 (y0:Nat),.int .u8 (y1:Nat)] 5)));have LIT:=J (zaZ wr (hd8 la k) #[.int .u8 (la:Nat),.int .u8 (x0:Nat),.int .u8 (x1:Nat),.int .u8 (y0:Nat),.int .u8 (y1:Nat)] 5 _ rfl rfl (by rw [HX0.out,HX1.out,HY0.out,HY1.out];rfl));have E1:=J (show (l++hd8 la k).length=n+5 by rw [List.length_append,HLN.out];rfl);have hdt:((xs.drop at_).take k).length=k:=by rw [List.length_take,List.length_drop,←HL.out];omega
   have HDT:=J hdt;have E2:=J (show (l++hd8 la k++(xs.drop at_).take k).length=n+5+k by rw [List.length_append,E1.out,hdt]);have hk0:((k:Int) == 0)=false:=by simp;omega
   have hn0:n≤3000000:=by omega
   have hakb:ak≤L:=by omega
   have hkb:1≤k:=hlk;have hakc:(ak:Int)≤c:=by omega
   have hakn:at_<ak:=by omega
   have hki:(at_:Int)≤ak:=by omega
   have hkd:ak-at_=k:=by omega
   have hkd2:(ak:Int)-at_=(k:Int):=by omega
   have HCASE:=J hla;have hlast:((ak:Int) == (L:Int))=decide (la=1):=by
    rcases hla with ⟨rfl,h⟩ | ⟨rfl,h⟩
    ·simp;omega
    ·simp;omega
   clear hS3 h3 hx0 hx1 hy0 hy1 hak hm hdl hk2 hdt h2 z0 z1 HX hD hln;have hzz:((at_:Int) == 0)=true∨((at_:Int) == 0)=false:=by cases ((at_:Int) == 0) <;> simp
   have hll:(la=1∧((ak:Int) == (L:Int))=true)∨(la=0∧((ak:Int) == (L:Int))=false):=by
    rcases hla with ⟨rfl,_⟩ | ⟨rfl,_⟩
    ·exact .inl ⟨rfl,by simpa using hlast⟩
    ·exact .inr ⟨rfl,by simpa using hlast⟩
   clear hlast hla;rcases hzz with hz | hz <;> rcases hll with ⟨rfl,hl1⟩ | ⟨rfl,hl1⟩
   all_goals
    go_wp2_with (first
     | (rw [Z0.out,Z1.out];refine zx rfl (.tmp 27) (.tmp 41) rfl w.heap.size (.slice bo n cu) (.slice (some ⟨wr.heap.size,0,none⟩) 5 5) l (hd8 _ k) rfl rfl (by have:=D0.out.own;rwa [HLN.out] at this ⊢) LIT.out D0.out.below.size (by rw [HLN.out];simp [hd8];omega) ?_;intro ao3 c3 w3 hA;rw [E1.out] at hA;have D3:=J (D0.out.app hA);rw [E1.out];have S3:=J (SRC.out w3 D3.out.below);clear hA)
     | (refine zx rfl (.tmp 43) (.tmp 49) rfl w.heap.size (.slice ao3 (n+5) c3) (.slice (some ⟨b,off+at_,none⟩) k (c-at_)) (l++hd8 _ k) ((xs.drop at_).take k) rfl rfl (by have:=D3.out.own;rwa [E1.out] at this ⊢) S3.out D3.out.below.size (by rw [E1.out,HDT.out];omega) ?_;intro ao4 c4 w4 hA;rw [E2.out] at hA;have D4:=J (D3.out.app hA);rw [E2.out];clear hA))
    go_roundg (L+1-ak)
    case measure=>omega
    case rel=>
     refine ⟨ak,n+5+k,ao4,c4,hakb,Nat.le_refl _,by omega,rfl,rfl,J ⟨_,f,E2.out,D4.out,?_⟩⟩;have h3:=HS3.out;rw [←HAK.out] at h3;by_cases hlt:ak<L
     ·rw [if_pos hlt] at h3
      exact .inl ⟨hlt,by have:=HFU.out;omega,h3⟩
     ·rw [if_neg hlt,List.append_nil] at h3
      exact .inr ⟨by omega,h3⟩
  ·obtain rfl:at_=L:=h1
   have hz':((at_:Int) == 0)=false:=by simp;omega
   have HFIN:=J (And.intro h2 hD);clear h2 hD;go_wp2;go_ret;obtain ⟨h2,hD⟩:=HFIN.out;exact ⟨bo,cu,by rw [←h2,hln];rfl,by rw [←h2];have:=hD.own;rw [hln] at this ⊢;exact this,hD.below⟩
theorem KD (w:World) (v:Value) (h:v=.slice none 0 0∨∃ ad c,v=.slice (some ad) 0 c):zi w v []:=by
 rcases h with rfl | ⟨ad,c,rfl⟩
 ·exact .inl ⟨rfl,rfl⟩
 ·exact .inr ⟨ad,c,rfl,Nat.zero_le _,fun j u hu=>by simp [u8s] at hu⟩
set_option maxHeartbeats 1600000 in
theorem X6 (ao:Option Addr) (c:Nat) (w:World) (hn:ao=none→c=0):Calls prog 16 #[.slice ao 0 c] w (Kept w (jY [])):=by
 have D0:Hid (Ds w (.slice (some ⟨w.heap.size,0,none⟩) 0 0) [] (w.alloc (.cells #[] 5))):=J ⟨JR w,(Below.refl w.heap.size w).more (Nat.le_refl _) _⟩;have hS:jY []=[1,0,0,255,255]:=by decide
 rw [hS];clear hS;have hsz:=qL w (.cells #[] 5);have LIT:=J (zaZ (w.alloc (.cells #[] 5)) [1,0,0,255,255] #[.int .u8 1,.int .u8 0,.int .u8 0,.int .u8 255,.int .u8 255] 5 (w.heap.size+1) hsz.symm rfl rfl);have D1:=J (D0.out.grow ((Below.refl (w.alloc (.cells #[] 5)).heap.size (w.alloc (.cells #[] 5))).more (Nat.le_refl _) (.cells #[.int .u8 1,.int .u8 0,.int .u8 0,.int .u8 255,.int .u8 255] 5)));have z0:bits BinOp.xor IntKind.u8 IntKind.u8.max 0=255:=by decide
 have hm:min (0:Int) 65535=0:=rfl;clear hsz;cases ao with
 | none=>
  obtain rfl:=hn rfl;go_enter func16,ntmps16;go_wp2_with fail
  refine wp_loop_rounds 1 ?_;rw [rounds_succ];go_wp2_with (first
   | (refine zx rfl (.tmp 27) (.tmp 41) rfl w.heap.size (.slice (some ⟨w.heap.size,0,none⟩) 0 0) (.slice (some ⟨w.heap.size+1,0,none⟩) 5 5) [] [1,0,0,255,255] rfl rfl D1.out.own LIT.out D1.out.below.size (by decide) ?_;intro ao3 c3 w3 hA;have D3:=J (D1.out.app hA);clear hA)
   | (refine zx rfl (.tmp 43) (.tmp 49) rfl w.heap.size (.slice ao3 5 c3) _ [1,0,0,255,255] [] rfl rfl D3.out.own (KD _ _ (.inl rfl)) D3.out.below.size (by decide) ?_;intro ao4 c4 w4 hA;have D4:=J (D3.out.app hA);clear hA))
  go_ret;exact ⟨ao4,c4,rfl,D4.out.own,D4.out.below⟩
 | some ad=>
  obtain ⟨bk,off,fk⟩:=ad;go_enter func16,ntmps16;go_wp2_with fail
  refine wp_loop_rounds 1 ?_;rw [rounds_succ];go_wp2_with (first
   | (refine zx rfl (.tmp 27) (.tmp 41) rfl w.heap.size (.slice (some ⟨w.heap.size,0,none⟩) 0 0) (.slice (some ⟨w.heap.size+1,0,none⟩) 5 5) [] [1,0,0,255,255] rfl rfl D1.out.own LIT.out D1.out.below.size (by decide) ?_;intro ao3 c3 w3 hA;have D3:=J (D1.out.app hA);clear hA)
   | (refine zx rfl (.tmp 43) (.tmp 49) rfl w.heap.size (.slice ao3 5 c3) _ [1,0,0,255,255] [] rfl rfl D3.out.own (KD _ _ (.inr ⟨_,_,rfl⟩)) D3.out.below.size (by decide) ?_;intro ao4 c4 w4 hA;have D4:=J (D3.out.app hA);clear hA))
  go_ret;exact ⟨ao4,c4,rfl,D4.out.own,D4.out.below⟩
theorem ze7:zml jY:=by
 intro w v bs h hb hl;by_cases hp:0<bs.length
 ·obtain ⟨b,off,c,rfl,_,_⟩:=h.at hp
  exact zei b off c bs w h hp hl
 ·have hn:bs=[]:=List.eq_nil_of_length_eq_zero (by omega)
  subst hn;rcases h with ⟨rfl,_⟩ | ⟨ad,c,rfl,_,_⟩
  ·exact X6 none 0 w fun _=>rfl
  ·exact X6 (some ad) c w fun e=>by cases e
theorem zhe (n:Nat) (h:n<2^32):(2^32-1) ^^^ n=2^32-(n+1):=by
 apply Nat.eq_of_testBit_eq;intro i;rw [Nat.testBit_xor,Nat.testBit_two_pow_sub_succ h,Nat.testBit_two_pow_sub_one];by_cases hi:i<32
 ·simp [hi]
 ·have:n.testBit i=false:=Nat.testBit_lt_two_pow (Nat.lt_of_lt_of_le h (Nat.pow_le_pow_right (by omega) (by omega)))
  simp [hi,this]
theorem zjT (n:Nat) (h:n<65536):∃ V:Nat,bits BinOp.xor IntKind.u32 IntKind.u32.max (n:Int)=(V:Int)∧V<4294967296∧V%2^16=65535-n:=by
 refine ⟨2^32-(n+1),?_,by omega,by omega⟩;show IntKind.u32.wrap ((BitVec.ofInt 32 IntKind.u32.max ^^^ BitVec.ofInt 32 (n:Int)).toNat:Int)=_;have h1:(BitVec.ofInt 32 IntKind.u32.max).toNat=2^32-1:=by decide
 have h2:(BitVec.ofInt 32 (n:Int)).toNat=n:=by
  rw [BitVec.ofInt_natCast,BitVec.toNat_ofNat];exact Nat.mod_eq_of_lt (by omega)
 rw [BitVec.toNat_xor,h1,h2,zhe n (by omega),IntKind.wrap_u32];omega
theorem Wq.putv {w:World}{base p:Nat}{g:Option Nat}{P:List (Nat × Nat)}(h:Wq w base p g P) (hn:wid P≤7000000000) (v:Int) (V k X:Nat) (hv:v=(V:Int)) (hV:V<4294967296) (hk:k≤32) (hX:V%2^k=X) :
  Calls prog 70 #[.pointer (some ⟨p,0,none⟩),.int .u32 v,.int .i64 k] w fun e w'=>e=.returned (.tuple #[])∧Pq w base p g (P++[(X,k)]) w':=by
 subst hv;refine (Wr.put h hn V k X hV hk hX).mono ?_;rintro e w' ⟨rfl,hp⟩;refine ⟨rfl,?_⟩;unfold Pq;rw [yS,zh,(zR X k).1,(zR X k).2,Nat.mul_comm];exact hp
theorem Pq.undrew {w w1:World}{base p:Nat}{g:Option Nat}{P:List (Nat × Nat)}(h:Pq w.drew base p g P w1):Pq w base p g P w1:=by
 obtain ⟨g',k1,k2,k3⟩:=h;exact ⟨g',k1,(Touch.refl _ w).drew.trans k2,k3⟩
def h2 (P:List (Nat × Nat)) (fl:Bool):List (Nat × Nat):=(P++[(lb fl,1),(0,2)])++[(0,up8 (wid (P++[(lb fl,1),(0,2)]))-wid (P++[(lb fl,1),(0,2)]))]
theorem kE (P:List (Nat × Nat)) (fl:Bool):wid (h2 P fl)=up8 (wid P+3):=by
 have e:wid (P++[(lb fl,1),(0,2)])=wid P+3:=by rw [zh];simp only [wid]
 unfold h2;rw [zh,e,(zR _ _).2];have:=yn (wid P+3);omega
theorem zgV (P:List (Nat × Nat)) (fl:Bool) (ys:List Nat) (n:Nat) (hn:ys.length=n):((h2 P fl++[(n,16)])++[(65535-n,16)])++ys.map (fun x=>(x,8))=P++xe (wid P) ys fl:=by
 have e:wid (P++[(lb fl,1),(0,2)])=wid P+3:=by rw [zh];simp only [wid]
 subst hn;unfold h2 xe;rw [e];simp only [List.append_assoc,List.cons_append,List.nil_append,lb]
theorem vm.more' {P0 P:List (Nat × Nat)}{bs:List Nat}{last:Bool}{a k:Nat}(h:vm P0 bs last a P) (hk:k=65535) (hl:65535<bs.length-a):vm P0 bs last (a+k) (P++xe (wid P) ((bs.drop a).take k) false):=by
 subst hk;exact h.more hl
set_option maxHeartbeats 6400000 in
theorem zf3 {w:World}{base pw pk:Nat}{g:Option Nat}{P:List (Nat × Nat)}(h:Wq w base pw g P) (ho:PkO w pk pw) (hn:wid P≤1000000000) (last:Bool){b off c:Nat}{bs:List Nat}(hs:zi w (.slice (some ⟨b,off,none⟩) bs.length c) bs) (hlo:b<base) (hb:Bs bs) (hl:bs.length≤300000) :
  Calls prog 48 #[.pointer (some ⟨pk,0,none⟩),.slice (some ⟨b,off,none⟩) bs.length c,.bool last] w fun e w'=>e=.returned (.tuple #[])∧Pq w base pw g (P++xg (wid P) bs last) w':=by
 have HW:=J h;have HO:=J ho;have HS:=J hs;have HB:=J hb;have HC:Hid (bs.length≤c):=J (by
  rcases hs with ⟨h1,_⟩ | ⟨ad,c',h1,h2,_⟩
  ·cases h1
  ·cases h1;exact h2)
 obtain ⟨L,hL⟩:=exq (bs.length);have HL:=J hL;rw [←hL] at hl ⊢;have hLc:(L:Int)≤c:=by have:=HC.out;omega
 have hLcn:L≤c:=by omega
 clear h ho hs hb hL;go_enter func48,ntmps48;go_wp2;go_loopg [1,6] (L+1) (fun gm v1 v6 wr=>(∃ (a:Nat) (Pc:List (Nat × Nat)),a≤L∧L+1-a≤gm∧v6=.bool true∧v1=.slice (some ⟨b,off+a,none⟩) (L-a) (c-a)∧Hid (vm P bs last a Pc∧Pq w base pw g Pc wr))∨(v6=.bool false∧Hid (Pq w base pw g (P++xg (wid P) bs last) wr)))
 case atStart=>exact .inl ⟨0,P,Nat.zero_le _,Nat.le_refl _,rfl,rfl,J ⟨vm.start _ _ _,Pq.refl HW.out⟩⟩
 case round=>
  rcases hrel with ⟨a,Pc,ha,hgm,rfl,rfl,HX⟩ | ⟨rfl,HX⟩
  ·obtain ⟨m,hm⟩:=exq (L-a)
   obtain ⟨k,hk⟩:=exq (min m 65535);have hmin:min (m:Int) 65535=(k:Int):=by omega
   have hk1:k≤65535:=by omega
   have hkm:(k:Int)≤m:=by omega
   have hmc:(m:Int)≤((c-a:Nat):Int):=by omega
   rw [←hm];have HQ:=J HX.out.2;have HM:=J HX.out.1;clear HX;obtain ⟨g0,hw0,hk0⟩:=HQ.out.then;have HW0:=J hw0;have HK0:=J hk0;have HO0:=J (HO.out.keep HW.out HQ.out);have HLO:Hid (∀ q,(Value.slice (some ⟨b,off,none⟩) L c).ownBlock=some q→q<base):=J (fun q hq=>by simp [Value.ownBlock] at hq;omega);have HS0:=J ((show zi w (.slice (some ⟨b,off,none⟩) L c) bs from HL.out ▸ HS.out).put HW.out HQ.out HLO.out);have hw3:=HM.out;obtain ⟨_,_,_,hwid⟩:=hw3;clear hw0 hk0;have HMk:=J hk;have HMm:=J hm;have hkL:k≤L-a:=by omega
   have hm3:m≤300000:=by omega
   clear hm hk;have HY:Hid (Bs ((bs.drop a).take k)):=J fun x hx=>HB.out x (List.mem_of_mem_drop (List.mem_of_mem_take hx))
   have HYL:Hid (((bs.drop a).take k).length=k):=J (by rw [List.length_take,List.length_drop,←HL.out];omega);have hk9:k≤1000000:=by omega
   have hkz:(0:Int)≤k:=by omega
   have hkc:(k:Int)≤((c-a:Nat):Int):=by omega
   have hkcn:k≤c-a:=by omega
   have SRC:=J fun (W:World) (hW:zi W (.slice (some ⟨b,off,none⟩) L c) bs)=>show zi W (.slice (some ⟨b,off+a,none⟩) k (c-a)) ((bs.drop a).take k) by
    by_cases hka:a<L
    ·exact hW.mid a k (by rw [←HL.out];exact hka) (by rw [←HL.out];omega)
    ·have hk0:k=0:=by omega
     subst hk0;rw [List.take_zero];exact .inr ⟨⟨b,off+a,none⟩,c-a,rfl,Nat.zero_le _,fun j u hu=>by simp [u8s] at hu⟩
   obtain ⟨fb,hfb⟩:=exq (decide (m≤65535):Bool);have he:((k:Int) == (m:Int))=fb:=by
    have:=HMk.out;by_cases hf:m≤65535
    ·rw [hfb,decide_eq_true hf];simp;omega
    ·rw [hfb,decide_eq_false hf];simp;omega
   have HFB:=J hfb;clear hfb;have hup:=yn (wid Pc+3);cases last <;> cases fb;all_goals
    go_wp2_with fail
    refine (kP HW0.out HO0.out (by omega) _ 0 (by omega)).mono ?_;rintro e w1 ⟨rfl,hq⟩;obtain ⟨g1,hw1,hk1⟩:=hq.then;have HW1:=J hw1;have HK1:=J fun Q w2 h=>HK0.out Q w2 (hk1 Q w2 h)
    have HO1:=J (HO0.out.keep HW0.out hq);have HS1:=J (HS0.out.put HW0.out hq HLO.out);have c1:=HO1.out.cell;clear hq hw1 hk1;go_wp2_with fail
    refine (HW1.out.alignP (by rw [zh];simp only [wid];omega)).mono ?_;rintro e w2 ⟨rfl,hq⟩;obtain ⟨g2,hw2,hk2⟩:=hq.then;have HW2:Hid (Wq w2 base pw g2 (h2 Pc _)):=J hw2;have HK2:=J fun Q w3 h=>HK1.out Q w3 (hk2 Q w3 h)
    have HO2:=J (HO1.out.keep HW1.out hq);have HS2:=J (HS1.out.put HW1.out hq HLO.out);have c2:=HO2.out.cell;clear hq hw2 hk2 c1;go_wp2_with fail
    refine (HW2.out.put (by rw [kE];omega) (k:Int) 16 k rfl (by omega) (by omega)).mono ?_;rintro e w3 ⟨rfl,hq⟩;obtain ⟨g3,hw3,hk3⟩:=hq.then;have HW3:=J hw3;have HK3:=J fun Q w4 h=>HK2.out Q w4 (hk3 Q w4 h)
    have HO3:=J (HO2.out.keep HW2.out hq);have HS3:=J (HS2.out.put HW2.out hq HLO.out);have c3:=HO3.out.cell;clear hq hw3 hk3 c2;go_wp2_with fail
    obtain ⟨V,hV1,hV2,hV3⟩:=zjT k (by omega);refine (HW3.out.putv (by rw [zh,kE,(zR _ _).2];omega) _ V 16 (65535-k) hV1 hV2 (by omega) hV3).mono ?_;clear hV1 hV2 hV3;rintro e w4 ⟨rfl,hq⟩;obtain ⟨g4,hw4,hk4⟩:=hq.then;have HW4:=J hw4;have HK4:=J fun Q w5 h=>HK3.out Q w5 (hk4 Q w5 h)
    have HO4:=J (HO3.out.keep HW3.out hq);have HS4:=J (HS3.out.put HW3.out hq HLO.out);have c4:=HO4.out.cell;clear hq hw4 hk4 c3;have HB4:=J (below_drewN (Below.refl w4.heap.size w4) 1);have HR4:=J ((show Wq w4.drew base pw g4 ((h2 Pc _++[(k,16)])++[(65535-k,16)]) from Wr.grow HW4.out HB4.out).rawP (by rw [zh,zh,kE,(zR _ _).2,(zR _ _).2];omega) (by rw [zh,zh,kE,(zR _ _).2,(zR _ _).2];omega) (SRC.out w4.drew (HS4.out.grow HB4.out)) HY.out (by rw [HYL.out];exact hk9));go_wp2_with fail
    go_still_tail 7,(by kernel_rfl)
    change wpList _ _ _ _ _ w4.drew;go_wp2_with fail
    refine HR4.out.mono ?_;rintro e w5 ⟨rfl,hq⟩;have HQ5:=J (show Pq w base pw g (Pc++xe (wid Pc) ((bs.drop a).take k) _) w5 from by
     rw [←zgV _ _ _ k HYL.out];exact HK4.out _ _ (Pq.undrew hq))
    clear hq HR4 HB4;first
     | (
       obtain rfl:k=m:=by have h1:=HMk.out;have h2:=of_decide_eq_true HFB.out.symm;omega
       go_wp2;all_goals
        go_roundg 0
        case measure=>omega
        case rel=>
         refine .inr ⟨rfl,J ?_⟩;have h2:=of_decide_eq_true HFB.out.symm;rw [←HM.out.end_ (by rw [←HL.out,←HMm.out];exact h2)];have h3:(bs.drop a).take k=bs.drop a:=by rw [HMm.out,HL.out,←List.length_drop,List.take_length]
         rw [←h3];exact HQ5.out)
     | (
       have hgt:(0:Int)<((m-k:Nat):Int):=by have h1:=HMk.out;have h2:=of_decide_eq_false HFB.out.symm;omega
       go_wp2;go_roundg (L+1-(a+k))
       case measure=>have h1:=HMk.out;have h2:=of_decide_eq_false HFB.out.symm;have h3:=HMm.out;omega
       case rel=>
        have h1:=HMk.out;have h2:=of_decide_eq_false HFB.out.symm;have h3:=HMm.out;refine .inl ⟨a+k,_,by omega,Nat.le_refl _,by rw [decide_eq_true (show 0<m-k by omega)],?_,J ⟨HM.out.more' (by omega) (by rw [←HL.out];omega),HQ5.out⟩⟩;rw [h3,Nat.add_assoc,Nat.sub_sub,Nat.sub_sub])
  ·go_wp2
   go_end0;exact ⟨rfl,HX.out⟩
set_option maxHeartbeats 3200000 in
theorem yF (ao:Option Addr) (c:Nat) (hac:ao=none→c=0){w:World}{base pw pk:Nat}{g:Option Nat}{P:List (Nat × Nat)}(h:Wq w base pw g P) (ho:PkO w pk pw) (hn:wid P≤1000000000) (last:Bool) :
  Calls prog 48 #[.pointer (some ⟨pk,0,none⟩),.slice ao 0 c,.bool last] w fun e w'=>e=.returned (.tuple #[])∧Pq w base pw g (P++xg (wid P) [] last) w':=by
 have HW0:=J h;have HO0:=J ho;have c0:=ho.cell;clear h ho;have hm0:min (0:Int) 65535=0:=by decide
 rcases ao with _ | ad
 case' none=>obtain rfl:=hac rfl
 case' none=>have HE:Hid (∀ W,zi W (.slice none 0 0) []):=J fun W => .inl ⟨rfl,rfl⟩
 case' some=>have HE:Hid (∀ W,zi W (.slice (some ad) 0 c) []):=J fun W => .inr ⟨ad,c,rfl,Nat.zero_le _,fun j u hu=>by simp [u8s] at hu⟩
 all_goals clear hac
 all_goals cases last
 all_goals
  go_enter func48,ntmps48;go_wp2;go_loopg [1,6] 2 (fun gm v1 v6 wr=>(1≤gm∧v1=.slice _ 0 _∧v6=.bool true∧wr=w)∨(v6=.bool false∧Hid (Pq w base pw g (P++xg (wid P) [] _) wr)))
  case atStart=>exact .inl ⟨by omega,rfl,rfl,rfl⟩
  case round=>
   rcases hrel with ⟨hgm,rfl,rfl,rfl⟩ | ⟨rfl,HX⟩
   ·have hup:=yn (wid P+3)
    go_wp2_with fail
    refine (kP HW0.out HO0.out (by omega) _ 0 (by omega)).mono ?_;rintro e w1 ⟨rfl,hq⟩;obtain ⟨g1,hw1,hk1⟩:=hq.then;have HW1:=J hw1;have HK1:=J hk1;have HO1:=J (HO0.out.keep HW0.out hq);have c1:=HO1.out.cell;clear hq hw1 hk1;go_wp2_with fail
    refine (HW1.out.alignP (by rw [zh];simp only [wid];omega)).mono ?_;rintro e w2 ⟨rfl,hq⟩;obtain ⟨g2,hw2,hk2⟩:=hq.then;have HW2:Hid (Wq w2 base pw g2 (h2 P _)):=J hw2;have HK2:=J fun Q w3 h=>HK1.out Q w3 (hk2 Q w3 h)
    have HO2:=J (HO1.out.keep HW1.out hq);have c2:=HO2.out.cell;clear hq hw2 hk2 c1;go_wp2_with fail
    refine (HW2.out.put (by rw [kE];omega) 0 16 0 rfl (by omega) (by omega)).mono ?_;rintro e w3 ⟨rfl,hq⟩;obtain ⟨g3,hw3,hk3⟩:=hq.then;have HW3:=J hw3;have HK3:=J fun Q w4 h=>HK2.out Q w4 (hk3 Q w4 h)
    have HO3:=J (HO2.out.keep HW2.out hq);have c3:=HO3.out.cell;clear hq hw3 hk3 c2;go_wp2_with fail
    obtain ⟨V,hV1,hV2,hV3⟩:=zjT 0 (by omega);refine (HW3.out.putv (by rw [zh,kE,(zR _ _).2];omega) _ V 16 (65535-0) (by simpa using hV1) hV2 (by omega) hV3).mono ?_;clear hV1 hV2 hV3;rintro e w4 ⟨rfl,hq⟩;obtain ⟨g4,hw4,hk4⟩:=hq.then;have HW4:=J hw4;have HK4:=J fun Q w5 h=>HK3.out Q w5 (hk4 Q w5 h)
    have HO4:=J (HO3.out.keep HW3.out hq);have c4:=HO4.out.cell;clear hq hw4 hk4 c3;have HB4:=J (below_drewN (Below.refl w4.heap.size w4) 1);have HR4:=J ((show Wq w4.drew base pw g4 ((h2 P _++[(0,16)])++[(65535-0,16)]) from Wr.grow HW4.out HB4.out).rawP (by rw [zh,zh,kE,(zR _ _).2,(zR _ _).2];omega) (by rw [zh,zh,kE,(zR _ _).2,(zR _ _).2];omega) (show zi w4.drew (.slice _ 0 _) [] from HE.out _) Bs.nil (by decide));go_wp2_with fail
    go_still_tail 7,(by kernel_rfl)
    change wpList _ _ _ _ _ w4.drew;go_wp2_with fail
    refine HR4.out.mono ?_;rintro e w5 ⟨rfl,hq⟩;have HQ5:=J (show Pq _ base pw g (P++xe (wid P) [] _) w5 from by
     rw [←zgV _ _ _ 0 rfl];exact HK4.out _ _ (Pq.undrew hq))
    clear hq HR4 HB4;go_wp2;all_goals
     go_roundg 0
     case measure=>omega
     case rel=>
      refine .inr ⟨rfl,J ?_⟩;rw [x4 _ _ (by decide)];exact HQ5.out
   ·go_wp2
    go_end0;exact ⟨rfl,HX.out⟩
theorem zci {w:World}{base pw pk:Nat}{g:Option Nat}{P:List (Nat × Nat)}(h:Wq w base pw g P) (ho:PkO w pk pw) (hn:wid P≤1000000000) (last:Bool){v:Value}{bs:List Nat}(hs:zi w v bs) (hlo:∀ k,v.ownBlock=some k→k<base) (hb:Bs bs) (hl:bs.length≤300000) :
  Calls prog 48 #[.pointer (some ⟨pk,0,none⟩),v,.bool last] w fun e w'=>e=.returned (.tuple #[])∧Pq w base pw g (P++xg (wid P) bs last) w':=by
 by_cases h0:0<bs.length
 ·obtain ⟨b,off,c,rfl,_⟩:=hs.at h0
  exact zf3 h ho hn last hs (hlo b (by simp [Value.ownBlock])) hb hl
 ·obtain rfl:bs=[]:=List.eq_nil_of_length_eq_zero (by omega)
  rcases hs with ⟨rfl,_⟩ | ⟨ad,c,rfl,hc,hcell⟩
  ·exact yF none 0 (fun _=>rfl) h ho hn last
  ·exact yF (some ad) c (fun e=>by cases e) h ho hn last
def rg3 (first:Nat) (B X:List Nat) (i:Nat):List Value:=[.int .i64 (first+i:Nat),.int .i64 (B.getD i 0:Nat),.int .i64 (X.getD i 0:Nat)]
def rgl (first:Nat) (B X:List Nat) (n:Nat):List Value:=(List.range n).flatMap (rg3 first B X)
theorem JY (first:Nat) (B X:List Nat) (n:Nat):rgl first B X (n+1)=rgl first B X n++rg3 first B X n:=by
 unfold rgl;rw [List.range_succ,List.flatMap_append];simp
theorem zbY (first:Nat) (B X:List Nat) (n:Nat):(rgl first B X n).length=n*3:=by
 induction n with
 | zero=>rfl
 | succ n ih=>rw [JY,List.length_append,ih];simp [rg3];omega
theorem zkD (first:Nat) (B X:List Nat) (n:Nat):∀ i,i<n→(rgl first B X n)[i*3]? = some (.int .i64 (first+i:Nat))∧(rgl first B X n)[i*3+1]? = some (.int .i64 (B.getD i 0:Nat))∧(rgl first B X n)[i*3+2]? = some (.int .i64 (X.getD i 0:Nat)):=by
 induction n with
 | zero=>intro i h;omega
 | succ n ih=>
  intro i h;rw [JY];have hl:=zbY first B X n;by_cases e:i<n
  ·obtain ⟨a,b,c⟩:=ih i e
   rw [List.getElem?_append_left (by omega),List.getElem?_append_left (by omega),List.getElem?_append_left (by omega)];exact ⟨a,b,c⟩
  ·obtain rfl:i=n:=by omega
   rw [List.getElem?_append_right (by omega),List.getElem?_append_right (by omega),List.getElem?_append_right (by omega),hl];rw [show i*3-i*3=0 by omega,show i*3+1-i*3=1 by omega,show i*3+2-i*3=2 by omega];exact ⟨rfl,rfl,rfl⟩
def RgA (w:World) (b n first:Nat) (B X:List Nat):Prop:=
 ∃ cs,Blk w b 174 cs∧∀ i,i<n→cs[i*3]? = some (.int .i64 (first+i:Nat))∧cs[i*3+1]? = some (.int .i64 (B.getD i 0:Nat))∧cs[i*3+2]? = some (.int .i64 (X.getD i 0:Nat))
theorem RgA.grow {w w1:World}{b n first:Nat}{B X:List Nat}(h:RgA w b n first B X) (hb:Below w.heap.size w w1):RgA w1 b n first B X:=by
 obtain ⟨cs,h1,h2⟩:=h;exact ⟨cs,h1.below hb,h2⟩
theorem RgA.keep {w w1:World}{b n first:Nat}{B X:List Nat}(h:RgA w b n first B X){base pw:Nat}{g:Option Nat}{P Q:List (Nat × Nat)}(hw:Wq w base pw g P) (hq:Pq w base pw g Q w1):RgA w1 b n first B X:=by
 obtain ⟨cs,h1,h2⟩:=h;exact ⟨cs,zt.blk hq hw h1 (by decide) (by decide),h2⟩
theorem RgA.at {w:World}{b n first:Nat}{B X:List Nat}(h:RgA w b n first B X){i:Nat}(hi:i<n):w.cell? ⟨b,i*3,none⟩=some (.int .i64 (first+i:Nat))∧w.cell? ⟨b,i*3+1,none⟩=some (.int .i64 (B.getD i 0:Nat))∧w.cell? ⟨b,i*3+2,none⟩=some (.int .i64 (X.getD i 0:Nat)):=by
 obtain ⟨cs,h1,h2⟩:=h;rw [h1.cell,h1.cell,h1.cell];exact h2 i hi
theorem zhG:AT 86 174 (.agg #[.int .i64 0,.int .i64 0,.int .i64 0]) 3 24:=⟨by kernel_rfl,by kernel_rfl,rfl,by omega⟩
theorem zhw {w:World}{base n c first:Nat}{ao:Option Addr}{B X:List Nat}(h:w.ownsRow base 174 3 (.slice ao n c) n (rgl first B X n)) (hn:0<n):∃ b,ao=some ⟨b,0,none⟩∧RgA w b n first B X∧base≤b∧n≤c∧b<w.heap.size:=by
 rcases h.2 with ⟨e,h0⟩ | ⟨g,cap,cur,e,hbg,hh,hnc,hcm,hcs,htake⟩
 ·omega
 ·simp only [Value.slice.injEq] at e
  obtain ⟨rfl,_,rfl⟩:=e;refine ⟨g,rfl,⟨cur,hh,fun i hi=>?_⟩,hbg,hnc,(Array.getElem?_eq_some_iff.1 hh).1⟩;obtain ⟨a,b,c⟩:=zkD first B X n i hi;have hl:=zbY first B X n;have key:∀ j,j<n*3→cur[j]? = (rgl first B X n)[j]? := fun j hj=>by
   have h1:=World.ownsRow.cellAt h j (by omega);have h2:Blk w g 174 cur:=hh;rw [h2.cell] at h1;rw [h1,List.getElem?_eq_getElem (by omega)]
  rw [key _ (by omega),key _ (by omega),key _ (by omega)];exact ⟨a,b,c⟩
theorem ze0 (w:World) (x y z:Int):zI (w.alloc (.cells #[.int .i64 x,.int .i64 y,.int .i64 z] 174)) (.slice (some ⟨w.heap.size,0,none⟩) 1 1) 1 [.int .i64 x,.int .i64 y,.int .i64 z]:=by
 refine .inr ⟨_,1,rfl,fun j u hu=>?_⟩;rw [Addr.add_lit,Nat.zero_add,(Blk.made w 174 _).cell];have:j<3:=by simpa using (List.getElem?_eq_some_iff.1 hu).1
 rcases (by omega:j=0∨j=1∨j=2) with rfl | rfl | rfl
 ·simpa using hu
 ·simpa using hu
 ·simpa using hu
def zki (w:World) (N first:Nat) (B X:List Nat) (e:Ending) (w':World):Prop:=∃ b c,e=.returned (.slice (some ⟨b,0,none⟩) N c)∧RgA w' b N first B X∧Below w.heap.size w w'∧w.heap.size≤b∧N≤c
set_option maxHeartbeats 1600000 in
theorem KU (f first N:Nat) (hff:f=76∨f=77) (B X:List Nat) (hN:0<N∧N≤40) (hfi:first≤1000) (w:World)
  (hf:∀ (W:World) (i:Nat),i<N→Calls prog f #[.int .i64 ((first+i:Nat):Int)] W fun e w'=>e=.returned (.tuple #[.int .i64 (B.getD i 0:Nat),.int .i64 (X.getD i 0:Nat),.bool true])∧W=w')
  (hno:∀ (W:World),Calls prog f #[.int .i64 ((first+N:Nat):Int)] W fun e w'=>e=.returned (.tuple #[.int .i64 0,.int .i64 0,.bool false])∧W=w') :
  Calls prog 75 #[.int .i64 first,.func (.func f) #[] #[]] w (zki w N first B X):=by
 have HF:=J hf;have HNO:=J hno;have hN1:=hN.1;have hN2:=hN.2;clear hf hno hN;rcases hff with rfl | rfl
 all_goals
  go_enter func75,ntmps75;go_wp2;go_loopw [5,6] (fun v5 v6 wr=>∃ (i:Nat) (ao:Option Addr) (c:Nat),i≤N∧v5=.slice ao i c∧v6=.int .i64 ((first+i:Nat):Int)∧Hid (wr.ownsRow w.heap.size 174 3 (.slice ao i c) i (rgl first B X i)∧Below w.heap.size w wr)) (fun _ v6 _=>first+N-(intOf v6).toNat)
  case atStart=>exact ⟨0,none,0,Nat.zero_le _,rfl,rfl,J ⟨World.ownsRow_nil _ _ _ _,Below.refl _ _⟩⟩
  case round=>
   obtain ⟨i,ao,c,hi,rfl,rfl,HX⟩:=hrel;have HO:=J HX.out.1;have HBE:=J HX.out.2;clear HX;have hsz:w.heap.size≤wr.heap.size:=HBE.out.size;by_cases hlt:i<N
   ·have HC:=J (HF.out wr i hlt)
    obtain ⟨x,hx⟩:=exq (B.getD i 0);obtain ⟨y,hy⟩:=exq (X.getD i 0);obtain ⟨s,hs⟩:=exq (first+i);have HL:Hid (rgl first B X (i+1)=rgl first B X i++[.int .i64 (s:Nat),.int .i64 (x:Nat),.int .i64 (y:Nat)]):=J (by rw [JY,rg3,hs,hx,hy]);rw [←hx,←hy,←hs] at HC;have hs2:s≤2000:=by omega
    have HS:=J hs;rw [←hs];clear hx hy hs;go_wp2_with fail
    refine HC.out.mono ?_;rintro e w1 ⟨rfl,rfl⟩;go_wp2_with (refine ze zhG rfl (.tmp 23) (.tmp 28) rfl w.heap.size (.slice ao i c) (.slice (some ⟨wr.heap.size,0,none⟩) 1 1) i 1 (rgl first B X i) [.int .i64 (s:Nat),.int .i64 (x:Nat),.int .i64 (y:Nat)] rfl rfl (World.ownsRow.alloc (w:=wr) HO.out _) (ze0 wr _ _ _) rfl (by simp [Value.oneCell']) (by simp;omega) (by omega) (by omega) ?_;intro ao2 cc2 w3 hA;have HA:=J hA;clear hA);go_roundw;case rel=>
     refine ⟨i+1,ao2,cc2,by omega,rfl,by rw [HS.out];go_num,J ⟨?_,?_⟩⟩
     ·rw [HL.out];exact HA.out.own
     ·have hBe:=HA.out.below (World.ownsRow.alloc (w:=wr) HO.out _) (by simp;omega)
      exact (HBE.out.alloc HBE.out.size _).trans hBe
    case measure=>simp [intOf];have:=HS.out;omega
   ·obtain rfl:i=N:=by omega
    have HC:=J (HNO.out wr);obtain ⟨s,hs⟩:=exq (first+i);rw [←hs] at HC ⊢;have hs2:s≤2000:=by omega
    clear hs;go_wp2_with fail
    refine HC.out.mono ?_;rintro e w1 ⟨rfl,rfl⟩;go_wp2;go_ret;obtain ⟨b,rfl,h1,h2,h3,_⟩:=zhw HO.out hN1;exact ⟨b,c,rfl,h1,HBE.out,h2,h3⟩
structure Cap (W:World) (pl px b N c first:Nat) (B X:List Nat) (n:Nat):Prop where
 l:W.cell? ⟨pl,0,none⟩=some (.slice (some ⟨b,0,none⟩) N c)
 x:W.cell? ⟨px,0,none⟩=some (.int .i64 (n:Nat))
 r:RgA W b N first B X
theorem RgA.drewN {w:World}{b n first:Nat}{B X:List Nat}(h:RgA w b n first B X) (q:Nat):RgA (w.drewN q) b n first B X:=h.grow (below_drewN (Below.refl _ _) q)
theorem Cap.drewN {W:World}{pl px b N c first:Nat}{B X:List Nat}{n:Nat}(h:Cap W pl px b N c first B X n) (q:Nat):Cap (W.drewN q) pl px b N c first B X n:=⟨h.l,h.x,h.r.drewN q⟩
theorem zel (pl px b N c first:Nat) (B X:List Nat) (n i:Nat) (W:World) (h:Cap W pl px b N c first B X n) (hi:i<N) :
  Calls prog 160 #[.int .i64 i,.pointer (some ⟨pl,0,none⟩),.pointer (some ⟨px,0,none⟩)] W fun e w'=>e=.returned (.bool (decide (n<B.getD i 0)))∧∃ q,w'=W.drewN q:=by
 have k1:=h.l;have k2:=h.x;obtain ⟨r0,r1,r2⟩:=h.r.at hi;obtain ⟨x,hx⟩:=exq (B.getD i 0);rw [←hx] at r1 ⊢;have hi':(i:Int)<N:=by omega
 clear h hx;by_cases hc:n<x
 ·have hc':(n:Int)<x:=by omega
  rw [decide_eq_true hc];go_enter func160,ntmps160;go_wp2;go_quiet (fail)
  go_wp2;go_ret;exact ⟨rfl,_,rfl⟩
 ·have hc':¬(n:Int)<x:=by omega
  have hd:decide ((n:Int)<x)=false:=decide_eq_false hc';rw [decide_eq_false hc];go_enter func160,ntmps160;go_wp2;go_quiet (fail)
  go_wp2;go_ret;exact ⟨rfl,_,rfl⟩
set_option maxHeartbeats 1600000 in
theorem zaE (pl px b N c first:Nat) (B X:List Nat) (n:Nat) (W:World) (h:Cap W pl px b N c first B X n) (hB:B.Pairwise (· < ·)) (hBN:B.length=N) (hN:N≤40) :
  Calls prog 159 #[.int .i64 N,.func (.func 160) #[] #[.pointer (some ⟨pl,0,none⟩),.pointer (some ⟨px,0,none⟩)]] W fun e w'=>e=.returned (.int .i64 (upn B n:Nat))∧∃ q,w'=W.drewN q:=by
 obtain ⟨K,hK⟩:=exq (upn B n);have hKN:K≤N:=by rw [hK,←hBN];exact Qu B n
 have HA:Hid (∀ i,i<N→decide (n<B.getD i 0)=decide (K≤i)):=J fun i hi=>by
  obtain ⟨a1,a2⟩:=vz hB n;rw [←hK] at a1 a2;by_cases e:K≤i
  ·rw [decide_eq_true e,decide_eq_true (a2 i e (by omega))]
  ·rw [decide_eq_false e,decide_eq_false (by have:=a1 i (by omega);omega)]
 have HC:=J h;rw [←hK];clear h hK;go_enter func159,ntmps159;go_wp2;go_loopw [5,6] (fun v5 v6 wr=>∃ (i j:Nat),v5=.int .i64 (i:Nat)∧v6=.int .i64 (j:Nat)∧i≤K∧K≤j∧j≤N∧∃ q,wr=W.drewN q) (fun v5 v6 _=>(intOf v6).toNat-(intOf v5).toNat)
 case atStart=>exact ⟨0,N,rfl,rfl,Nat.zero_le _,hKN,Nat.le_refl _,0,rfl⟩
 case round=>
  obtain ⟨i,j,rfl,rfl,hi,hj,hjN,q,rfl⟩:=hrel;by_cases hlt:i<j
  ·have hlt':(i:Int)<j:=by omega
   obtain ⟨m,hm⟩:=exq ((i+j)/2);have hm2:((i:Int)+j)/2=(m:Int):=by omega
   have hmN:m<N:=by omega
   have hij:i+j≤80:=by omega
   have hmm:i≤m∧m<j:=by omega
   have HM:=J hm;have HP:=J (zel pl px b N c first B X n m (W.drewN q) (HC.out.drewN q) hmN);rw [HA.out m hmN] at HP;clear hm;by_cases hc:K≤m
   ·rw [decide_eq_true hc] at HP
    go_wp2_with fail
    refine HP.out.mono ?_;rintro e w2 ⟨rfl,q2,rfl⟩;go_wp2;go_roundw;case rel=>exact ⟨i,m,rfl,rfl,hi,hc,by omega,q+q2,rfl⟩
    case measure=>simp [intOf];omega
   ·rw [decide_eq_false hc] at HP
    go_wp2_with fail
    refine HP.out.mono ?_;rintro e w2 ⟨rfl,q2,rfl⟩;go_wp2;go_roundw;case rel=>exact ⟨m+1,j,by go_num,rfl,by omega,hj,hjN,q+q2,rfl⟩
    case measure=>simp [intOf];omega
  ·obtain rfl:i=K:=by omega
   go_wp2;go_ret;exact ⟨rfl,q,rfl⟩
theorem Blk.more {w:World}{b:Nat}{t:TypeId}{cs:Array Value}(h:Blk w b t cs) (o:Obj):Blk (w.alloc o) b t cs:=h.below ((Below.refl _ _).alloc (Nat.le_refl _) o)
theorem qR (w:World) (o:Obj):(w.alloc o).heap.size=w.heap.size+1:=by show (w.heap.push _).size=_;simp
theorem zkn {t:Array Value}{W:World}{q:Nat}{x0 x1 x2:Value}(h4:t[4]? = some (.pointer (some ⟨q,0,none⟩))) (h:Blk W q 174 #[x0,x1,x2]):(results Tryz.f126 t).run prog W=.ok (.agg #[x0,x1,x2]) W:=by
 have e0:=(h.cell 0).trans (show _=some x0 from rfl);have e1:=(h.cell 1).trans (show _=some x1 from rfl);have e2:=(h.cell 2).trans (show _=some x2 from rfl);simp [results,results126,h4,go_sem,e0,e1,e2]
theorem zas {w w4:World}{q:Nat}(h:Below w.heap.size w w4) (hq:w.heap.size≤q) (x0 x1 x2:Value):Below w.heap.size w (((w4.setCell ⟨q,0,none⟩ x0).setCell ⟨q,1,none⟩ x1).setCell ⟨q,2,none⟩ x2):=by
 have h3:Touch (fun k=>w.heap.size≤k) w w4:=(Touch.of_below h:Touch (fun _=>False) w w4).mono fun _ h=>h.elim
 exact (((h3.setCell _ _ (.inr hq)).setCell _ _ (.inr hq)).setCell _ _ (.inr hq)).below (Nat.le_refl _) fun k h=>h
def rgV (first:Nat) (B X:List Nat) (n:Nat):Value:=.agg #[.int .i64 (first+rix B n:Nat),.int .i64 (B.getD (rix B n) 0:Nat),.int .i64 (X.getD (rix B n) 0:Nat)]
set_option maxHeartbeats 1600000 in
theorem yI (b N c first:Nat) (B X:List Nat) (n:Nat) (w:World) (h:RgA w b N first B X) (hB:B.Pairwise (· < ·)) (hBN:B.length=N) (hN:N≤40) (hc:N≤c) (hp:1≤upn B n) :
  Calls prog 126 #[.slice (some ⟨b,0,none⟩) N c,.int .i64 n] w fun e w'=>e=.returned (rgV first B X n)∧Below w.heap.size w w':=by
 obtain ⟨K,hK⟩:=exq (upn B n);have hKN:K≤N:=by rw [hK,←hBN];exact Qu B n
 obtain ⟨k,hk⟩:=exq (rix B n);have hkK:K=k+1:=by rw [hK,hk];unfold rix;omega
 have hkn:(k:Int)<N:=by omega
 have hknN:k<N:=by omega
 have e1:IntKind.i64.wrap ((K:Int)-1)=(k:Int):=by rw [IntKind.wrap_i64];omega
 have e2:(K:Int)-1=(k:Int):=by omega
 have HR:=J h;have HK:=J hK;have HRV:Hid (rgV first B X n=.agg #[.int .i64 (first+k:Nat),.int .i64 (B.getD k 0:Nat),.int .i64 (X.getD k 0:Nat)]):=J (by rw [hk];rfl);have HCN:Hid (N≤c):=J hc;have hcz:(N:Int)≤c:=by omega
 rw [hp |> fun _=>HRV.out];obtain ⟨x0,hx0⟩:=exq (first+k);obtain ⟨x1,hx1⟩:=exq (B.getD k 0);obtain ⟨x2,hx2⟩:=exq (X.getD k 0);have HX:=J (And.intro hx0 (And.intro hx1 hx2));rw [←hx0,←hx1,←hx2];clear h hK hk hkK hx0 hx1 hx2 hp;go_enter func126,ntmps126;go_wp2_with fail
 obtain ⟨W3,hW3⟩:=exq (((w.alloc (.cells #[.slice (some ⟨b,0,none⟩) N c] 86)).alloc (.cells #[.int .i64 n] 3)).alloc (.cells #[.int .i64 0,.int .i64 0,.int .i64 0] 174));have b1:=(Below.refl w.heap.size w).alloc (Nat.le_refl _) (.cells #[.slice (some ⟨b,0,none⟩) N c] 86);have b2:=b1.alloc b1.size (.cells #[.int .i64 n] 3);have b3:=b2.alloc b2.size (.cells #[.int .i64 0,.int .i64 0,.int .i64 0] 174);have B3:Hid (Below w.heap.size w W3):=J (by rw [hW3];exact b3);have C3:Hid (Cap W3 w.heap.size (w.heap.size+1) b N c first B X n):=J ⟨by
   rw [hW3,((Blk.made w 86 #[.slice (some ⟨b,0,none⟩) N c]).more (.cells #[.int .i64 n] 3) |>.more (.cells #[.int .i64 0,.int .i64 0,.int .i64 0] 174)).cell];rfl,by
   have:=((Blk.made (w.alloc (.cells #[.slice (some ⟨b,0,none⟩) N c] 86)) 3 #[.int .i64 n]).more (.cells #[.int .i64 0,.int .i64 0,.int .i64 0] 174)).cell 0;rw [qR] at this;rw [hW3,this];rfl,HR.out.grow B3.out⟩
 have R3:Hid (Blk W3 (w.heap.size+1+1) 174 #[.int .i64 0,.int .i64 0,.int .i64 0]):=J (by
  rw [hW3];have:=Blk.made ((w.alloc (.cells #[.slice (some ⟨b,0,none⟩) N c] 86)).alloc (.cells #[.int .i64 n] 3)) 174 #[.int .i64 0,.int .i64 0,.int .i64 0];rwa [qR,qR] at this)
 rw [←hW3];clear hW3 b1 b2 b3;refine (zaE _ _ b N c first B X n W3 C3.out hB hBN hN).mono ?_;rw [←HK.out];rintro e w4 ⟨rfl,q,hw4⟩;have B4:Hid (Below W3.heap.size W3 w4):=J (by rw [hw4];exact below_drewN (Below.refl _ _) q);clear hw4;have C4:Hid (Cap w4 w.heap.size (w.heap.size+1) b N c first B X n∧Blk w4 (w.heap.size+1+1) 174 #[.int .i64 0,.int .i64 0,.int .i64 0]):=J ⟨⟨(B4.out.cell (p:=⟨w.heap.size,0,none⟩) (World.block_lt_of_cell? _ _ C3.out.l)).trans C3.out.l,(B4.out.cell (p:=⟨w.heap.size+1,0,none⟩) (World.block_lt_of_cell? _ _ C3.out.x)).trans C3.out.x,C3.out.r.grow B4.out⟩,R3.out.below B4.out⟩;have k1:=C4.out.1.l;obtain ⟨r0,r1,r2⟩:=C4.out.1.r.at hknN;rw [←HX.out.1] at r0;rw [←HX.out.2.1] at r1;rw [←HX.out.2.2] at r2;have z0:=(C4.out.2.cell 0).trans (show _=some (.int .i64 0) from rfl);have z1:=(C4.out.2.cell 1).trans (show _=some (.int .i64 0) from rfl);have z2:=(C4.out.2.cell 2).trans (show _=some (.int .i64 0) from rfl);have f0:=C4.out.2.free 0;have f1:=C4.out.2.free 1;have f2:=C4.out.2.free 2;go_wp2;refine bodyPost_ret (zkn rfl (((C4.out.2.setCell 0 _).setCell 1 _).setCell 2 _)) rfl ⟨rfl,zas (B3.out.on B4.out) (by omega) _ _ _⟩
theorem Wq.grow {w w1:World}{base pw:Nat}{g:Option Nat}{P:List (Nat × Nat)}(h:Wq w base pw g P) (hb:Below w.heap.size w w1):Wq w1 base pw g P:=Wr.grow h hb
theorem Pq.back {w w1 w2:World}{base pw:Nat}{g:Option Nat}{Q:List (Nat × Nat)}(hb:Below w.heap.size w w1) (h:Pq w1 base pw g Q w2):Pq w base pw g Q w2:=by
 obtain ⟨g',k1,k2,k3⟩:=h;have hT:Touch (fun _=>False) w w1:=Touch.of_below hb;exact ⟨g',k1,(hT.mono fun _ h=>h.elim).trans k2,fun k hk=>(k3 k hk).imp id fun h=>Nat.le_trans hT.size h⟩
theorem zg.keep {w w1:World}{base pw:Nat}{g:Option Nat}{P Q:List (Nat × Nat)}{c:Nat}{ls:List Nat}(h:zg w c ls) (hw:Wq w base pw g P) (hq:Pq w base pw g Q w1):zg w1 c ls:=zt.code hq hw h
theorem zf (w:World):Below w.heap.size w w.drew:=below_drewN (Below.refl _ _) 1
set_option maxHeartbeats 1600000 in
theorem UD {w:World}{base pw pk c:Nat}{g:Option Nat}{P:List (Nat × Nat)}{ls:List Nat}(h:Wq w base pw g P) (ho:PkO w pk pw) (hc:zg w c ls) (hn:wid P≤3000000000) (y b x n:Nat) (hy:ln ls y≠0) (hb:b≤n) (hx:n-b<2^x) (hx32:x≤13) (hn4:n≤40000) :
  Calls prog 133 #[.pointer (some ⟨pk,0,none⟩),.pointer (some ⟨c,0,none⟩),.agg #[.int .i64 (y:Nat),.int .i64 (b:Nat),.int .i64 (x:Nat)],.int .i64 n] w fun e w'=>e=.returned (.tuple #[])∧Pq w base pw g (P++[cp ls y,(n-b,x)]) w':=by
 obtain ⟨w1,hw1⟩:=exq (w.alloc (.cells #[.int .i64 (y:Nat),.int .i64 (b:Nat),.int .i64 (x:Nat)] 174));have B1:Hid (Below w.heap.size w w1):=J (by rw [hw1];exact (Below.refl _ _).alloc (Nat.le_refl _) _);obtain ⟨q,hq⟩:=exq (w.heap.size);have R1:Hid (Blk w1 q 174 #[.int .i64 (y:Nat),.int .i64 (b:Nat),.int .i64 (x:Nat)]):=J (by rw [hw1,hq];exact Blk.made _ _ _);have HW:=J (h.grow B1.out);have HO:=J (ho.grow B1.out);have HC:=J (hc.below B1.out);have HY:=J hy;have c0:=HO.out.cell;have r0:=(R1.out.cell 0).trans (show _=some (.int .i64 (y:Nat)) from rfl);obtain ⟨d,hd⟩:=exq (n-b);have hd2:(n:Int)-b=(d:Int):=by omega
 have hd4:d≤40000:=by omega
 have hln:ln ls y≤15:=z6 hc.ok y;have HX:Hid (d<2^x):=J (by rw [hd];exact hx);rw [←hd];have HA:Hid (P++[cp ls y,(d,x)]=(P++[cp ls y])++[(d,x)]):=J (by simp);clear h ho hc hy hd hx;go_enter func133,ntmps133;go_upto_region 1 with fail
 rw [←hw1,←hq];have HP:=J ((HW.out.grow (zf w1)).sym (by omega) (HC.out.below (zf w1)) y HY.out);clear hw1 hq;go_still_tail 7,(by kernel_rfl)
 change wpList _ _ _ _ _ w1.drew;go_wp2_with fail
 refine HP.out.mono ?_;rintro e w2 ⟨rfl,hq⟩;have hq:=Pq.undrew hq;obtain ⟨g2,hw2,hk2⟩:=hq.then;have HW2:=J hw2;have HK2:=J fun Q w3 h=>Pq.back B1.out (hk2 Q w3 h)
 have c2:=(HO.out.keep HW.out hq).cell;have R2:=zt.blk hq HW.out R1.out (by decide) (by decide);have s1:=(R2.cell 1).trans (show _=some (.int .i64 (b:Nat)) from rfl);have s2:=(R2.cell 2).trans (show _=some (.int .i64 (x:Nat)) from rfl);clear hq hw2 hk2 HP R2 c0 r0;have HP:=J ((HW2.out.grow (zf w2)).put (by rw [zh];simp only [wid,cp];omega) (d:Int) x d rfl (by omega) HX.out);go_wp2_with fail
 go_still_tail 11,(by kernel_rfl)
 change wpList _ _ _ _ _ w2.drew;go_wp2_with fail
 refine HP.out.mono ?_;rintro e w3 ⟨rfl,hq⟩;have HQ:=J (HK2.out _ _ (Pq.undrew hq));clear hq;go_wp2;go_end0;exact ⟨rfl,by rw [HA.out];exact HQ.out⟩
end
end Go.Proofs.YtacpfpghokcdlaaGreatDoor
