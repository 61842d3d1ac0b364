/- Part 13. -/
import Derived.Sort.WalkA
import Derived.Test.YtacpfpghokcdlaaGreatDoorXB12
open Go.Proofs.Tryz
namespace Go.Proofs.YtacpfpghokcdlaaGreatDoor.Y
set_option maxRecDepth 100000
section
open Go.Lib renaming hid → J
open Go.RowKit Go.Sort
def xv (d:Array Nat) (a c:Nat):Nat→Array Nat
 | 0=>d
 | k+1=>swp (xv d a c k) (a+k) (c+k)
theorem xh (d:Array Nat) (a c k:Nat):(xv d a c k).size=d.size:=by
 induction k with
 | zero=>rfl
 | succ k ih=>rw [xv,size_swp,ih]
theorem JV (d:Array Nat) (a c k:Nat) (h1:a+k≤c) (h2:c+k≤d.size) (x:Nat) :
  (xv d a c k)[x]! = if a≤x∧x<a+k then d[x+c-a]! else if c≤x∧x<c+k then d[x+a-c]! else d[x]! := by
 induction k generalizing x with
 | zero=>rw [if_neg (by omega),if_neg (by omega)];rfl
 | succ k ih=>
  have ih':=ih (by omega) (by omega);rw [xv,swp_get _ (by rw [xh];omega) (by rw [xh];omega)];by_cases e1:x=c+k
  ·subst e1
   rw [if_pos rfl,ih',if_neg (by omega),if_neg (by omega),if_neg (by omega),if_pos (by omega)];congr 1;omega
  ·rw [if_neg e1]
   by_cases e2:x=a+k
   ·subst e2
    rw [if_pos rfl,ih',if_neg (by omega),if_neg (by omega),if_pos (by omega)];congr 1;omega
   ·rw [if_neg e2,ih']
    by_cases e3:a≤x∧x<a+k
    ·rw [if_pos e3,if_pos (show a≤x∧x<a+(k+1) by omega)]
    ·rw [if_neg e3,if_neg (show ¬(a≤x∧x<a+(k+1)) by omega)]
     by_cases e4:c≤x∧x<c+k
     ·rw [if_pos e4,if_pos (show c≤x∧x<c+(k+1) by omega)]
     ·rw [if_neg e4,if_neg (show ¬(c≤x∧x<c+(k+1)) by omega)]
theorem yw (d:Array Nat) (a c k lo hi:Nat) (h0:lo≤a) (h1:a+k≤c) (h2:c+k≤hi) (h3:hi≤d.size):PermIn lo hi d (xv d a c k):=by
 induction k with
 | zero=>exact permIn_refl _ _ _
 | succ k ih=>
  refine permIn_trans _ _ _ _ _ (ih (by omega) (by omega)) ?_;exact swp_permIn _ _ _ _ _ (by omega) (by omega) (by omega) (by omega) (by rw [xh];omega)
set_option maxHeartbeats 1600000 in
theorem jf (cx b N c a p n:Nat) (d:Array Nat) (w0 w:World) (S:Srt w0 b N d w) (h1:a+n≤p) (h2:p+n≤d.size) (hsz:d.size≤1000) :
  Calls prog 200 #[.slice (some ⟨b,0,none⟩) d.size c,.int .i64 a,.int .i64 p,.int .i64 n,.func (.func 187) #[] #[.pointer (some ⟨cx,0,none⟩)]] w fun e w'=>
   e=.returned (.tuple #[])∧Srt w0 b N (xv d a p n) w':=by
 have S0:=J S;clear S;go_enter func200,ntmps200;go_wp2;go_loopw [10] (fun i wr=>∃ k:Nat,k≤n∧i=.int .i64 k∧Srt w0 b N (xv d a p k) wr) (fun i _=>n-(intOf i).toNat)
 case atStart=>exact ⟨0,Nat.zero_le _,rfl,S0.out⟩
 case round=>
  obtain ⟨k,hk,rfl,hrel⟩:=hrel;have HR:=J hrel;clear hrel S0;by_cases hlt:k<n
  ·have hkk:(k:Int)<n:=by omega
   obtain ⟨iN,hiN⟩:=exq (a+k);obtain ⟨jN,hjN⟩:=exq (p+k);have eN:=J (And.intro hiN hjN);have hsw:=xh d a p k;obtain ⟨x,hx⟩:∃ x,x=(xv d a p k)[iN]! := ⟨_,rfl⟩;obtain ⟨y,hy⟩:∃ y,y=(xv d a p k)[jN]! := ⟨_,rfl⟩;have ca:=HR.out.cell iN (by omega);have cb:=HR.out.cell jN (by omega);have fa:=HR.out.free iN (by omega);have fb:=HR.out.free jN (by omega);obtain ⟨u,cc⟩:=HR.out.two iN jN (by omega) (by omega) (.int .i64 (y:Nat));have S3:=J (HR.out.swap iN jN (by omega) (by omega)).drew;rw [←hx,←hy] at S3;rw [←hx] at ca;rw [←hy] at cb;have e1:IntKind.i64.wrap ((a:Int)+k)=iN:=by rw [IntKind.wrap_i64];omega
   have e2:IntKind.i64.wrap ((p:Int)+k)=jN:=by rw [IntKind.wrap_i64];omega
   have b1:(iN:Int)<d.size:=by omega
   have b2:(jN:Int)<d.size:=by omega
   clear hx hy hiN hjN hsw HR;go_wp2_with fail
   go_region
   generalize ((wr.setCell ⟨b,iN,none⟩ (.int .i64 (y:Nat))).setCell ⟨b,jN,none⟩ (.int .i64 (x:Nat))).drew=w3 at S3 ⊢;go_wp2;go_roundw;case rel=>exact ⟨k+1,by omega,by go_num,by rw [xv,←eN.out.1,←eN.out.2];exact S3.out⟩
   case measure=>simp [intOf];omega
  ·have hk':k=n:=by omega
   subst hk';go_wp2;go_end0;exact ⟨rfl,HR.out⟩
def kG (d:Array Nat) (a m e x:Nat):Nat:=if a≤x∧x<a+(e-m) then d[x+(m-a)]! else if a+(e-m)≤x∧x<e then d[x-(e-m)]! else d[x]!
theorem xN {d:Array Nat}{a m e x:Nat}(h:a≤x∧x<a+(e-m)):kG d a m e x=d[x+(m-a)]! := if_pos h
theorem xE {d:Array Nat}{a m e x:Nat}(h:a+(e-m)≤x∧x<e):kG d a m e x=d[x-(e-m)]! := by rw [kG,if_neg (by omega),if_pos h]
theorem zV {d:Array Nat}{a m e x:Nat}(h:x<a∨(a+(e-m)≤x∧e≤x)):kG d a m e x=d[x]! := by rw [kG,if_neg (by omega),if_neg (by omega)]
theorem Qj {d:Array Nat}{a c k x:Nat}(h1:a+k≤c) (h2:c+k≤d.size) (h:a≤x∧x<a+k):(xv d a c k)[x]! = d[x+c-a]! := by rw [JV d a c k h1 h2,if_pos h]
theorem Xf {d:Array Nat}{a c k x:Nat}(h1:a+k≤c) (h2:c+k≤d.size) (h:c≤x∧x<c+k):(xv d a c k)[x]! = d[x+a-c]! := by rw [JV d a c k h1 h2,if_neg (by omega),if_pos h]
theorem x9 {d:Array Nat}{a c k x:Nat}(h1:a+k≤c) (h2:c+k≤d.size) (h:¬(a≤x∧x<a+k)∧¬(c≤x∧x<c+k)):(xv d a c k)[x]! = d[x]! := by rw [JV d a c k h1 h2,if_neg h.1,if_neg h.2]
theorem at_eq {d:Array Nat}{x y:Nat}(h:x=y):d[x]! = d[y]! := by rw [h]
theorem zkz (d:Array Nat) (m i j x:Nat) (hi:i≤m) (hij:j<i) (hs:m+j≤d.size):kG d (m-i) m (m+j) x=kG (xv d (m-i) m j) (m-(i-j)) m (m+j) x:=by
 have h1:m-i+j≤m:=by omega
 by_cases c1:x<m-i
 ·rw [zV (by omega),zV (by omega),x9 h1 hs (by omega)]
 ·by_cases c2:x<m-i+j
  ·rw [xN (by omega),zV (by omega),Qj h1 hs (by omega)];exact at_eq (by omega)
  ·by_cases c3:x<m-i+2*j
   ·rw [xE (by omega),xN (by omega),Xf h1 hs (by omega)];exact at_eq (by omega)
   ·by_cases c4:x<m+j
    ·rw [xE (by omega),xE (by omega),x9 h1 hs (by omega)]
    ·rw [zV (by omega),zV (by omega),x9 h1 hs (by omega)]
theorem zkw (d:Array Nat) (m i j x:Nat) (hi:i≤m) (hij:i<j) (hs:m+j≤d.size):kG d (m-i) m (m+j) x=kG (xv d (m-i) (m+j-i) i) (m-i) m (m+(j-i)) x:=by
 have h1:m-i+i≤m+j-i:=by omega
 have h2:m+j-i+i≤d.size:=by omega
 by_cases c1:x<m-i
 ·rw [zV (by omega),zV (by omega),x9 h1 h2 (by omega)]
 ·by_cases c2:x<m-i+(j-i)
  ·rw [xN (by omega),xN (by omega),x9 h1 h2 (by omega)]
  ·by_cases c3:x<m+(j-i)
   ·rw [xN (by omega),xE (by omega),Qj h1 h2 (by omega)];exact at_eq (by omega)
   ·by_cases c4:x<m+j
    ·rw [xE (by omega),zV (by omega),Xf h1 h2 (by omega)];exact at_eq (by omega)
    ·rw [zV (by omega),zV (by omega),x9 h1 h2 (by omega)]
theorem zla (d:Array Nat) (m i x:Nat) (hi:i≤m) (hs:m+i≤d.size):kG d (m-i) m (m+i) x=(xv d (m-i) m i)[x]! := by
 have h1:m-i+i≤m:=by omega
 by_cases c1:x<m-i
 ·rw [zV (by omega),x9 h1 hs (by omega)]
 ·by_cases c2:x<m
  ·rw [xN (by omega),Qj h1 hs (by omega)];exact at_eq (by omega)
  ·by_cases c3:x<m+i
   ·rw [xE (by omega),Xf h1 hs (by omega)];exact at_eq (by omega)
   ·rw [zV (by omega),x9 h1 hs (by omega)]
structure Rot (w0:World) (b N:Nat) (d:Array Nat) (a m e:Nat) (d':Array Nat) (W:World):Prop where
 s:Srt w0 b N d' W
 perm:PermIn a e d d'
 at_:∀ x,kG d a m e x=d'[x]!
set_option maxHeartbeats 1600000 in
theorem zaV (cx b N c a m e:Nat) (d:Array Nat) (w0 w:World) (S:Srt w0 b N d w) (h1:a<m) (h2:m<e) (h3:e≤d.size) (hsz:d.size≤1000) :
  Calls prog 199 #[.slice (some ⟨b,0,none⟩) d.size c,.int .i64 a,.int .i64 m,.int .i64 e,.func (.func 187) #[] #[.pointer (some ⟨cx,0,none⟩)]] w fun en w'=>
   en=.returned (.tuple #[])∧∃ d',Rot w0 b N d a m e d' w':=by
 have S0:=J S;clear S;go_enter func199,ntmps199;go_wp2;go_loopw [10,11] (fun iv jv wr=>∃ (i j:Nat) (dk:Array Nat),iv=.int .i64 i∧jv=.int .i64 j∧0<i∧0<j∧i≤m-a∧j≤e-m∧dk.size=d.size∧Srt w0 b N dk wr∧PermIn a e d dk∧∀ x,kG d a m e x=kG dk (m-i) m (m+j) x) (fun iv jv _=>(intOf iv).toNat+(intOf jv).toNat)
 case atStart=>exact ⟨m-a,e-m,d,by go_num,by go_num,by omega,by omega,by omega,by omega,rfl,S0.out,permIn_refl _ _ _,fun x=>by rw [show m-(m-a)=a by omega,show m+(e-m)=e by omega]⟩
 case round=>
  obtain ⟨i,j,dk,rfl,rfl,hi0,hj0,hi,hj,hds,hs,hp,ht⟩:=hrel;have HS:=J hs;have HP:=J hp;have HT:=J ht;clear hs hp ht S0;by_cases hne:i=j
  ·have hHe:=J hne
   have hnn:((i:Int) != j)=false:=by simp [hne]
   have e1:IntKind.i64.wrap ((m:Int)-i)=((m-i:Nat):Int):=by rw [IntKind.wrap_i64];omega
   have HC:=J (jf cx b N c (m-i) m i dk w0 wr HS.out (by omega) (by omega) (by omega));rw [hds] at HC;obtain ⟨mi,hmi⟩:=exq (m-i);have HM:=J hmi;rw [←hmi] at e1 HC;clear hne hmi;go_wp2_with (go_at_call 200;(with_reducible refine HC.out.mono ?_);rintro en w' ⟨rfl,hS⟩;have HS2:=J hS;clear hS);go_end0;refine ⟨rfl,_,HS2.out,?_,fun x=>?_⟩
   ·refine permIn_trans _ _ _ _ _ HP.out ?_
    have:=HM.out;have:=hHe.out;exact yw dk mi m i a e (by omega) (by omega) (by omega) (by omega)
   ·rw [HT.out x,HM.out,←hHe.out]
    have:=hHe.out;exact zla dk m i x (by omega) (by omega)
  ·have hnn:((i:Int) != j)=true:=by simp;omega
   by_cases hgt:j<i
   ·have hgt':(j:Int)<i:=by omega
    have e1:IntKind.i64.wrap ((m:Int)-i)=((m-i:Nat):Int):=by rw [IntKind.wrap_i64];omega
    have HC:=J (jf cx b N c (m-i) m j dk w0 wr HS.out (by omega) (by omega) (by omega));rw [hds] at HC;obtain ⟨mi,hmi⟩:=exq (m-i);have HM:=J hmi;rw [←hmi] at e1 HC;have hne':=J hne;clear hne hmi;go_wp2_with (go_at_call 200;(with_reducible refine HC.out.mono ?_);rintro en w' ⟨rfl,hS⟩;have HS2:=J hS;clear hS);go_roundw;case rel=>
     refine ⟨i-j,j,_,by go_num,rfl,by omega,hj0,by omega,hj,?_,HS2.out,?_,fun x=>?_⟩
     ·rw [xh];exact hds
     ·refine permIn_trans _ _ _ _ _ HP.out ?_
      have:=HM.out;exact yw dk mi m j a e (by omega) (by omega) (by omega) (by omega)
     ·rw [HT.out x,HM.out]
      exact zkz dk m i j x (by omega) hgt (by omega)
    case measure=>simp [intOf];omega
   ·have hgt':(i:Int)≤j:=by omega
    have hij:i<j:=by omega
    have e1:IntKind.i64.wrap ((m:Int)-i)=((m-i:Nat):Int):=by rw [IntKind.wrap_i64];omega
    have e2:IntKind.i64.wrap ((m:Int)+j)=((m+j:Nat):Int):=by rw [IntKind.wrap_i64];omega
    have e3:IntKind.i64.wrap (((m+j:Nat):Int)-i)=((m+j-i:Nat):Int):=by rw [IntKind.wrap_i64];omega
    have HC:=J (jf cx b N c (m-i) (m+j-i) i dk w0 wr HS.out (by omega) (by omega) (by omega));rw [hds] at HC;obtain ⟨mi,hmi⟩:=exq (m-i);obtain ⟨mj,hmj⟩:=exq (m+j);obtain ⟨mk,hmk⟩:=exq (m+j-i);have HM:=J hmi;have HK:=J hmk;rw [←hmk] at e3 HC;rw [←hmj] at e2 e3;rw [←hmi] at e1 HC;have hne':=J hne;clear hne hmi hmk hmj;go_wp2_with (go_at_call 200;(with_reducible refine HC.out.mono ?_);rintro en w' ⟨rfl,hS⟩;have HS2:=J hS;clear hS);go_roundw;case rel=>
     refine ⟨i,j-i,_,rfl,by go_num,hi0,by omega,hi,by omega,?_,HS2.out,?_,fun x=>?_⟩
     ·rw [xh];exact hds
     ·refine permIn_trans _ _ _ _ _ HP.out ?_
      have:=HM.out;have:=HK.out;exact yw dk mi mk i a e (by omega) (by omega) (by omega) (by omega)
     ·rw [HT.out x,HM.out,HK.out]
      exact zkw dk m i j x (by omega) hij (by omega)
    case measure=>simp [intOf];omega
def ltk (key:Nat→Int) (x y:Nat):Bool:=decide (key x<key y)
theorem zb0 (key:Nat→Int):SWO (ltk key) where
 irrefl x:=by simp [ltk]
 trans x y z h1 h2:=by simp [ltk] at *;omega
 ntrans x y z h1 h2:=by simp [ltk] at *;omega
def kz (cnt:Nat→Int) (x:Nat):Int:=cnt x*1024+x
theorem uK (cnt:Nat→Int) (x y:Nat) (H:(x<1024∧y<1024)∧(cnt x=cnt y→y≤x)) (v:Bool) (h:ltk (kz cnt) x y=v):decide (ci (cnt x) (cnt y)<0)=v:=by
 rw [zkl,←h];obtain ⟨⟨h1,h2⟩,h3⟩:=H;refine decide_eq_decide.2 ?_;unfold kz;by_cases e:cnt x=cnt y
 ·have:=h3 e
  constructor <;> intro h <;> omega
 ·constructor <;> intro h <;> omega
theorem vD (cnt:Nat→Int) (x y:Nat) (H:(x<1024∧y<1024)∧(cnt x=cnt y→y≤x)) (h:ltk (kz cnt) x y=true):ci (cnt x) (cnt y)<0:=of_decide_eq_true (uK cnt x y H true h)
def Stb (cnt:Nat→Int) (d:Array Nat):Prop:=∀ i j,i<j→j<d.size→cnt d[i]! = cnt d[j]! → d[i]! ≤ d[j]!
theorem zfr {cnt:Nat→Int}{d:Array Nat}{j jp:Nat}(hj:j<d.size) (e:j=jp+1) (S:Stb cnt d) (h:cnt d[j]! ≠ cnt d[jp]!):Stb cnt (swp d j jp):=by
 intro p q hpq hq hc;rw [size_swp] at hq;have ha:=fun k=>swp_get d (i:=j) (j:=jp) (k:=k) hj (by omega)
 rw [ha,ha] at hc ⊢;subst e;by_cases p1:p=jp
 ·by_cases q1:q=jp+1
  ·rw [if_pos p1,if_neg (by omega),if_pos q1] at hc;exact absurd hc h
  ·rw [if_pos p1,if_neg (by omega),if_neg q1] at hc ⊢;exact S _ _ (by omega) hq hc
 ·by_cases p2:p=jp+1
  ·rw [if_neg p1,if_pos p2,if_neg (by omega),if_neg (by omega)] at hc ⊢;exact S _ _ (by omega) hq hc
  ·rw [if_neg p1,if_neg p2] at hc ⊢
   by_cases q1:q=jp
   ·rw [if_pos q1] at hc ⊢;exact S _ _ (by omega) (by omega) hc
   ·by_cases q2:q=jp+1
    ·rw [if_neg q1,if_pos q2] at hc ⊢;exact S _ _ (by omega) (by omega) hc
    ·rw [if_neg q1,if_neg q2] at hc ⊢;exact S _ _ hpq hq hc
set_option maxHeartbeats 4000000 in
theorem yi (cnt:Nat→Int) (cx b N c lo hi:Nat) (d:Array Nat) (w0 w:World) (HC0:Cmp cnt N cx b w0) (S:Srt w0 b N d w) (ST:Stb cnt d) (hlh:lo≤hi) (hh:hi≤d.size) (hsz:d.size≤1000) :
  Calls prog 197 #[.slice (some ⟨b,0,none⟩) d.size c,.int .i64 lo,.int .i64 hi,.func (.func 187) #[] #[.pointer (some ⟨cx,0,none⟩)]] w fun e w'=>
   e=.returned (.tuple #[])∧Srt w0 b N (Sort.insertionSort (ltk (kz cnt)) d lo hi) w':=by
 have S0:=J S;have HC:=J HC0;have ST0:=J ST;clear S HC0 ST;go_enter func197,ntmps197;go_wp2;go_loopw [8] (fun vi wr=>∃ (i:Nat) (dk:Array Nat),vi=.int .i64 i∧lo<i∧i≤hi+1∧dk.size=d.size∧Srt w0 b N dk wr∧Stb cnt dk∧insOuter (ltk (kz cnt)) lo hi i dk=insOuter (ltk (kz cnt)) lo hi (lo+1) d) (fun vi _=>hi+1-(intOf vi).toNat)
 case atStart=>exact ⟨lo+1,d,by go_num,by omega,by omega,rfl,S0.out,ST0.out,rfl⟩
 case round=>
  obtain ⟨i,dk,rfl,hai,hib,hsk,hs1,ht1,ho⟩:=hrel;have T1:=J ht1;have S1:=J hs1;have HO:=J ho;clear hs1 ht1 ho S0 ST0;by_cases hlt:i<hi
  ·have hltz:(i:Int)<(hi:Int):=by omega
   go_wp2;go_loopw [9] (fun vj wr2=>∃ (j:Nat) (dj:Array Nat),vj=.int .i64 j∧lo≤j∧j≤i∧dj.size=d.size∧Srt w0 b N dj wr2∧Stb cnt dj∧insInner (ltk (kz cnt)) lo j dj=insInner (ltk (kz cnt)) lo i dk) (fun vj _=>(intOf vj).toNat)
   case atStart=>exact ⟨i,dk,rfl,by omega,Nat.le_refl _,hsk,S1.out,T1.out,rfl⟩
   case round=>
    obtain ⟨j,dj,rfl,haj,hji,hsj,hsr,htr,hi1⟩:=hrel;have TJ:=J htr;have SJ:=J hsr;have HI:=J hi1;clear hsr htr hi1 S1 T1;have OUT:=J (show (j≤lo∨ltk (kz cnt) dj[j]! dj[j-1]! = false)→insOuter (ltk (kz cnt)) lo hi (i+1) dj=insOuter (ltk (kz cnt)) lo hi (lo+1) d from fun hs=>by
     rw [←HO.out,insOuter_go _ _ _ _ _ hlt,←HI.out,insInner_stop _ _ _ _ hs])
    by_cases hja:lo<j
    ·have hjaz:(lo:Int)<(j:Int):=by omega
     obtain ⟨jp,hjp⟩:=exq (j-1);have HJ:=J hjp;have e1:IntKind.i64.wrap ((j:Int)-1)=(jp:Nat):=by rw [IntKind.wrap_i64];omega
     have b1:(j:Int)<d.size:=by omega
     have b2:(jp:Int)<d.size:=by omega
     have ca:=SJ.out.cell j (by omega);have cb:=SJ.out.cell jp (by omega);obtain ⟨x,hx⟩:∃ x,x=dj[j]! := ⟨_,rfl⟩;obtain ⟨y,hy⟩:∃ y,y=dj[jp]! := ⟨_,rfl⟩;have HX:=J hx;have HY:=J hy;rw [←hx] at ca;rw [←hy] at cb;have HL:Hid (x<N∧y<N):=J ⟨by rw [hx];exact SJ.out.lt j (by omega),by rw [hy];exact SJ.out.lt jp (by omega)⟩;have HT:Hid ((x<1024∧y<1024)∧(cnt x=cnt y→y≤x)):=J ⟨⟨by have:=HC.out.1;have:=HL.out.1;omega,by have:=HC.out.1;have:=HL.out.2;omega⟩,fun h=>by rw [hx,hy] at h ⊢;exact TJ.out jp j (by omega) (by omega) h.symm⟩
     have HCC:Hid (∀ n,Calls prog 187 #[.int .i64 (x:Nat),.int .i64 (y:Nat),.pointer (some ⟨cx,0,none⟩)] (wr.drewN n) fun e w'=>e=.returned (.int .i64 (ci (cnt x) (cnt y)))∧∃ q,w'=(wr.drewN n).drewN q):=
      J fun n=>HC.out.2 _ (SJ.out.touch.drewN n) x y HL.out.1 HL.out.2
     clear hx hy hjp;cases hlv:ltk (kz cnt) x y with
     | true=>
      have hv:=vD cnt x y HT.out hlv;obtain ⟨cv,hcv⟩:=exq (ci (cnt x) (cnt y));rw [←hcv] at HCC hv;have HLV:=J hlv;have TS:Hid (Stb cnt (swp dj j jp)):=J (zfr (by omega) (by have:=HJ.out;omega) TJ.out (by
       have h1:=of_decide_eq_true (uK cnt x y HT.out true hlv);rw [←HX.out,←HY.out];intro e;rw [e] at h1;simp [ci] at h1))
      clear hcv hlv;go_wp2;go_quiet ((go_at_call 187;exact Calls.quiet_of (HCC.out _)))
      have SJ2:=J (SJ.out.drewN nq);clear ca cb SJ HCC;generalize wr.drewN nq=w2 at SJ2 ⊢;have ca:=SJ2.out.cell j (by omega);have cb:=SJ2.out.cell jp (by omega);rw [←HX.out] at ca;rw [←HY.out] at cb;have fa:=SJ2.out.free j (by omega);have fb:=SJ2.out.free jp (by omega);obtain ⟨u,cc⟩:=SJ2.out.two j jp (by omega) (by omega) (.int .i64 (y:Nat));have S3:=J (SJ2.out.swap j jp (by omega) (by omega)).drew;rw [←HX.out,←HY.out] at S3;clear SJ2;go_wp2;go_region
      generalize ((w2.setCell ⟨b,j,none⟩ (.int .i64 (y:Nat))).setCell ⟨b,jp,none⟩ (.int .i64 (x:Nat))).drew=w3 at S3 ⊢;clear ca cb cc fa fb;go_wp2;go_roundw;case rel=>
       refine ⟨jp,swp dj j jp,by first | rfl | go_num,by have:=HJ.out;omega,by have:=HJ.out;omega,by rw [size_swp];exact hsj,S3.out,TS.out,?_⟩;rw [←HI.out,insInner_go (ltk (kz cnt)) lo j dj hja (by rw [←HJ.out,←HX.out,←HY.out];exact HLV.out),←HJ.out]
      case measure=>simp [intOf];have:=HJ.out;omega
     | false=>
      have hv:¬ci (cnt x) (cnt y)<0:=of_decide_eq_false (uK cnt x y HT.out false hlv);obtain ⟨cv,hcv⟩:=exq (ci (cnt x) (cnt y));rw [←hcv] at HCC hv;have HLV:=J hlv;have hv':0≤cv:=by omega
      have hd:decide (cv<0)=false:=decide_eq_false hv;clear hcv hlv hv;go_wp2;go_quiet ((go_at_call 187;exact Calls.quiet_of (HCC.out _)))
      have SJ2:=J (SJ.out.drewN nq);clear ca cb SJ HCC;generalize wr.drewN nq=w2 at SJ2 ⊢;go_wp2;go_roundw;case rel=>exact ⟨i+1,dj,by go_num,by omega,by omega,hsj,SJ2.out,TJ.out,OUT.out (Or.inr (by rw [←HJ.out,←HX.out,←HY.out];exact HLV.out))⟩
      case measure=>simp [intOf];omega
    ·have hjaz':(j:Int)≤(lo:Int):=by omega
     have hd:decide ((lo:Int)<(j:Int))=false:=decide_eq_false (by omega);go_wp2;go_quiet (fail)
     have SJ2:=J (SJ.out.drewN nq);clear SJ;generalize wr.drewN nq=w2 at SJ2 ⊢;go_wp2;go_roundw;case rel=>exact ⟨i+1,dj,by go_num,by omega,by omega,hsj,SJ2.out,TJ.out,OUT.out (Or.inl (by omega))⟩
     case measure=>simp [intOf];omega
  ·have hltz:(hi:Int)≤(i:Int):=by omega
   go_wp2;go_end0;exact ⟨rfl,by unfold Sort.insertionSort;rw [←HO.out,insOuter_stop _ _ _ _ _ hlt];exact S1.out⟩
end
section
open Go.RowKit Go.Sort
def Asc (key:Nat→Int) (d:Array Nat) (a b:Nat):Prop:=∀ i j,a≤i→i≤j→j<b→key d[i]! ≤ key d[j]!
theorem Asc.of_sorted {key:Nat→Int}{d:Array Nat}{a b:Nat}(h:SortedIn (ltk key) a b d):Asc key d a b:=fun i j hi hij hj=>by
 by_cases e:i=j
 ·subst e;exact Int.le_refl _
 ·have:=h i j hi (by omega) hj
  simp [ltk] at this;omega
theorem Asc.congr {key:Nat→Int}{d d':Array Nat}{a b:Nat}(h:Asc key d a b) (e:∀ x,a≤x→x<b→d'[x]! = d[x]!):Asc key d' a b:=fun i j hi hij hj=>by
 rw [e i hi (by omega),e j (by omega) hj];exact h i j hi hij hj
theorem Asc.sub {key:Nat→Int}{d:Array Nat}{a b a' b':Nat}(h:Asc key d a b) (h1:a≤a') (h2:b'≤b):Asc key d a' b':=fun i j hi hij hj=>h i j (by omega) hij (by omega)
def shl (d:Array Nat) (a:Nat):Nat→Array Nat
 | 0=>d
 | k+1=>swp (shl d a k) (a+k) (a+k+1)
theorem um (d:Array Nat) (a k:Nat):(shl d a k).size=d.size:=by
 induction k with
 | zero=>rfl
 | succ k ih=>rw [shl,size_swp,ih]
theorem zkA (d:Array Nat) (a k:Nat) (h:a+k<d.size) (x:Nat):(shl d a k)[x]! = if a≤x∧x<a+k then d[x+1]! else if x=a+k then d[a]! else d[x]! := by
 induction k generalizing x with
 | zero=>
  rw [if_neg (by omega)];by_cases e:x=a
  ·subst e;rw [if_pos (by omega)];rfl
  ·rw [if_neg (by omega)];rfl
 | succ k ih=>
  have ih':=ih (by omega);rw [shl,swp_get _ (by rw [um];omega) (by rw [um];omega)];by_cases e1:x=a+k+1
  ·rw [if_pos e1,ih',if_neg (by omega),if_pos rfl,if_neg (by omega),if_pos (by omega)]
  ·rw [if_neg e1]
   by_cases e2:x=a+k
   ·rw [if_pos e2,ih',if_neg (by omega),if_neg (by omega),if_pos (by omega)]
    exact at_eq (by omega)
   ·rw [if_neg e2,ih']
    by_cases e3:a≤x∧x<a+k
    ·rw [if_pos e3,if_pos (show a≤x∧x<a+(k+1) by omega)]
    ·rw [if_neg e3,if_neg e2,if_neg (show ¬(a≤x∧x<a+(k+1)) by omega),if_neg (by omega)]
theorem zgL (d:Array Nat) (a k lo hi:Nat) (h1:lo≤a) (h2:a+k<hi) (h3:hi≤d.size):PermIn lo hi d (shl d a k):=by
 induction k with
 | zero=>exact permIn_refl _ _ _
 | succ k ih=>exact permIn_trans _ _ _ _ _ (ih (by omega)) (swp_permIn _ _ _ _ _ (by omega) (by omega) (by omega) (by omega) (by rw [um];omega))
def shr (d:Array Nat) (m:Nat):Nat→Array Nat
 | 0=>d
 | t+1=>swp (shr d m t) (m-t) (m-t-1)
theorem yL (d:Array Nat) (m k:Nat):(shr d m k).size=d.size:=by
 induction k with
 | zero=>rfl
 | succ k ih=>rw [shr,size_swp,ih]
theorem zlq (d:Array Nat) (m t:Nat) (h:m<d.size) (ht:t≤m) (x:Nat):(shr d m t)[x]! = if x=m-t then d[m]! else if m-t<x∧x≤m then d[x-1]! else d[x]! := by
 induction t generalizing x with
 | zero=>
  by_cases e:x=m
  ·subst e;rw [if_pos (by omega)];rfl
  ·rw [if_neg (by omega),if_neg (by omega)];rfl
 | succ t ih=>
  have ih':=ih (by omega);rw [shr,swp_get _ (by rw [yL];omega) (by rw [yL];omega)];by_cases e1:x=m-t-1
  ·rw [if_pos e1,ih',if_pos rfl,if_pos (by omega)]
  ·rw [if_neg e1]
   by_cases e2:x=m-t
   ·rw [if_pos e2,ih',if_neg (by omega),if_neg (by omega),if_neg (by omega),if_pos (by omega)]
    exact at_eq (by omega)
   ·rw [if_neg e2,ih',if_neg e2]
    by_cases e3:m-t<x∧x≤m
    ·rw [if_pos e3,if_neg (show ¬x=m-(t+1) by omega),if_pos (show m-(t+1)<x∧x≤m by omega)]
    ·rw [if_neg e3,if_neg (show ¬x=m-(t+1) by omega),if_neg (show ¬(m-(t+1)<x∧x≤m) by omega)]
theorem zhr (d:Array Nat) (m t lo hi:Nat) (h1:lo+t≤m) (h2:m<hi) (h3:hi≤d.size):PermIn lo hi d (shr d m t):=by
 induction t with
 | zero=>exact permIn_refl _ _ _
 | succ t ih=>exact permIn_trans _ _ _ _ _ (ih (by omega)) (swp_permIn _ _ _ _ _ (by omega) (by omega) (by omega) (by omega) (by rw [yL];omega))
theorem zin (key:Nat→Int) (d:Array Nat) (lo hi i:Nat) (hh:hi≤d.size) (hi1:lo+1≤i) (hi2:i≤hi) (hs:Asc key d (lo+1) hi)
  (h1:∀ x,lo+1≤x→x<i→key d[x]! < key d[lo]!) (h2:∀ x,i≤x→x<hi→key d[lo]! ≤ key d[x]!):Asc key (shl d lo (i-1-lo)) lo hi:=fun p q hp hpq hq=>by
 have ha:=zkA d lo (i-1-lo) (by omega);by_cases e:p=q
 ·subst e;exact Int.le_refl _
 ·rw [ha,ha]
  by_cases c1:p<i-1
  ·rw [if_pos (by omega)]
   by_cases c2:q<i-1
   ·rw [if_pos (by omega)];exact hs _ _ (by omega) (by omega) (by omega)
   ·rw [if_neg (by omega)]
    have:=h1 (p+1) (by omega) (by omega);by_cases c3:q=i-1
    ·rw [if_pos (by omega)];omega
    ·rw [if_neg (by omega)]
     have:=h2 q (by omega) hq;omega
  ·rw [if_neg (by omega)]
   by_cases c2:p=i-1
   ·rw [if_pos (by omega),if_neg (by omega),if_neg (by omega)];exact h2 q (by omega) hq
   ·rw [if_neg (by omega),if_neg (by omega),if_neg (by omega)];exact hs _ _ (by omega) hpq hq
theorem ziA (key:Nat→Int) (d:Array Nat) (lo m i:Nat) (hh:m<d.size) (hi1:lo≤i) (hi2:i≤m) (hs:Asc key d lo m)
  (h1:∀ x,lo≤x→x<i→key d[x]! ≤ key d[m]!) (h2:∀ x,i≤x→x<m→key d[m]! < key d[x]!):Asc key (shr d m (m-i)) lo (m+1):=fun p q hp hpq hq=>by
 have ha:=zlq d m (m-i) hh (by omega);by_cases e:p=q
 ·subst e;exact Int.le_refl _
 ·rw [ha,ha]
  by_cases c1:p<i
  ·rw [if_neg (by omega),if_neg (by omega)]
   by_cases c2:q=i
   ·rw [if_pos (by omega)];exact h1 p hp c1
   ·rw [if_neg (by omega)]
    by_cases c3:q<i
    ·rw [if_neg (by omega)];exact hs _ _ hp hpq (by omega)
    ·rw [if_pos (by omega)];exact hs _ _ hp (by omega) (by omega)
  ·by_cases c2:p=i
   ·rw [if_pos (by omega),if_neg (by omega),if_pos (by omega)]
    have:=h2 (q-1) (by omega) (by omega);omega
   ·rw [if_neg (by omega),if_pos (by omega),if_neg (by omega),if_pos (by omega)]
    exact hs _ _ (by omega) (by omega) (by omega)
structure zjL (key:Nat→Int) (d:Array Nat) (lo m hi mid s:Nat):Prop where
 a:lo≤s∧s≤m
 e:m+mid-s≤hi∧m≤m+mid-s
 l:s≤mid
 good:∀ x,lo≤x→x<s→∀ y,m+mid-s≤y→y<hi→key d[x]! ≤ key d[y]!
 bad:∀ x,m≤x→x<m+mid-s→∀ y,s≤y→y<m→key d[x]! ≤ key d[y]!
theorem zlf (key:Nat→Int) (d:Array Nat) (lo m hi mid s s0 r0:Nat) (h1:lo<m) (h2:m<hi) (hmid:mid=(lo+hi)/2) (hA:Asc key d lo m) (hB:Asc key d m hi)
  (h0:(mid<m∧s0=mid+m-hi∧r0=mid)∨(m≤mid∧s0=lo∧r0=m)) (hs:s0≤s∧s≤r0)
  (hg:∀ c,s0≤c→c<s→key d[c]! ≤ key d[mid+m-1-c]!) (hb:∀ c,s≤c→c<r0→key d[mid+m-1-c]! < key d[c]!):zjL key d lo m hi mid s:=by
 refine ⟨by omega,by omega,by omega,fun x hx1 hx2 y hy1 hy2=>?_,fun x hx1 hx2 y hy1 hy2=>?_⟩
 ·have h3:s0<s:=by omega
  have g:=hg (s-1) (by omega) (by omega);have a1:=hA x (s-1) hx1 (by omega) (by omega);have b1:=hB (mid+m-1-(s-1)) y (by omega) (by omega) hy2;omega
 ·have h3:s<r0:=by omega
  have g:=hb s (Nat.le_refl _) h3;have a1:=hA s y (by omega) hy1 hy2;have b1:=hB x (mid+m-1-s) hx1 (by omega) (by omega);omega
structure zlH (key:Nat→Int) (d:Array Nat) (lo mid hi s e:Nat):Prop where
 l1:Asc key d lo s
 l2:Asc key d s mid
 r1:Asc key d mid e
 r2:Asc key d e hi
 x:∀ p q,lo≤p→p<mid→mid≤q→q<hi→key d[p]! ≤ key d[q]!
theorem half (key:Nat→Int) (d d1:Array Nat) (lo m hi mid s:Nat) (h1:lo<m) (hmid:mid=(lo+hi)/2) (hA:Asc key d lo m) (hB:Asc key d m hi) (C:zjL key d lo m hi mid s)
  (hr:∀ x,kG d s m (m+mid-s) x=d1[x]!):zlH key d1 lo mid hi s (m+mid-s):=by
 have ca:=C.a;have ce:=C.e;have cl:=C.l;have q1:∀ x,x<s→d1[x]! = d[x]! := fun x hx=>by rw [←hr,zV (by omega)]
 have q2:∀ x,s≤x→x<mid→d1[x]! = d[x+(m-s)]! := fun x hx hx2=>by rw [←hr,xN (by omega)]
 have q3:∀ x,mid≤x→x<m+mid-s→d1[x]! = d[x-(mid-s)]! := fun x hx hx2=>by rw [←hr,xE (by omega)];exact at_eq (by omega)
 have q4:∀ x,m+mid-s≤x→mid≤x→d1[x]! = d[x]! := fun x hx hx2=>by rw [←hr,zV (by omega)]
 refine ⟨fun i j hi hij hj=>?_,fun i j hi hij hj=>?_,fun i j hi hij hj=>?_,fun i j hi hij hj=>?_,fun p q hp hp2 hq hq2=>?_⟩
 ·rw [q1 i (by omega),q1 j hj];exact hA i j hi hij (by omega)
 ·rw [q2 i hi (by omega),q2 j (by omega) hj];exact hB _ _ (by omega) (by omega) (by omega)
 ·rw [q3 i hi (by omega),q3 j (by omega) hj];exact hA _ _ (by omega) (by omega) (by omega)
 ·rw [q4 i hi (by omega),q4 j (by omega) (by omega)];exact hB _ _ (by omega) hij hj
 ·by_cases c1:p<s
  ·rw [q1 p c1]
   by_cases c2:q<m+mid-s
   ·rw [q3 q hq c2];exact hA _ _ hp (by omega) (by omega)
   ·rw [q4 q (by omega) hq];exact C.good p hp c1 q (by omega) hq2
  ·rw [q2 p (by omega) hp2]
   by_cases c2:q<m+mid-s
   ·rw [q3 q hq c2];exact C.bad _ (by omega) (by omega) _ (by omega) (by omega)
   ·rw [q4 q (by omega) hq];exact hB _ _ (by omega) (by omega) hq2
theorem zf4 (d:Array Nat) (s m e x:Nat) (h:s=m∨m=e) (h1:s≤m) (h2:m≤e):kG d s m e x=d[x]! := by
 rcases h with rfl | rfl
 ·by_cases c:s≤x∧x<e
  ·rw [xN (by omega)];exact at_eq (by omega)
  ·rw [zV (by omega)]
 ·by_cases c:s≤x∧x<m
  ·rw [xE (by omega)];exact at_eq (by omega)
  ·rw [zV (by omega)]
theorem zO {a b:Nat}{d d':Array Nat}(h:PermIn a b d d'){x:Nat}(hx:x<a∨b≤x):d'[x]! = d[x]! := h.2.1 x hx
theorem ul {cnt:Nat→Int}{d d':Array Nat}{lo hi:Nat}(hh:hi≤d.size) (S:Stb cnt d) (p:PermIn lo hi d d') (a:Asc (kz cnt) d' lo hi):Stb cnt d':=by
 intro i j hij hj hc;have hs:d'.size=d.size:=p.1;by_cases i1:i<lo
 ·have ei:=zO p (x:=i) (.inl i1)
  rw [ei] at hc ⊢;by_cases j1:lo≤j∧j<hi
  ·exact permIn_all d d' lo hi (fun v=>cnt d[i]! = cnt v→d[i]! ≤ v) (by omega) p (fun x hx1 hx2=>S i x (by omega) (by omega)) j j1.1 j1.2 hc
  ·rw [zO p (x:=j) (by omega)] at hc ⊢
   exact S i j hij (by omega) hc
 ·by_cases i2:i<hi
  ·by_cases j1:j<hi
   ·have h1:=a i j (by omega) (by omega) j1
    unfold kz at h1;omega
   ·rw [zO p (x:=j) (.inr (by omega))] at hc ⊢
    exact permIn_all d d' lo hi (fun v=>cnt v=cnt d[j]! → v≤d[j]!) (by omega) p (fun x hx1 hx2=>S x j (by omega) (by omega)) i (by omega) i2 hc
  ·rw [zO p (x:=i) (.inr (by omega)),zO p (x:=j) (.inr (by omega))] at hc ⊢
   exact S i j hij (by omega) hc
theorem ziL {cnt:Nat→Int}{d d1:Array Nat}{s m e:Nat}(S:Stb cnt d) (h1:s≤m) (h2:m≤e) (he:e≤d.size) (hz:d1.size=d.size) (hr:∀ x,kG d s m e x=d1[x]!)
  (hb:∀ x,m≤x→x<e→∀ y,s≤y→y<m→kz cnt d[x]! ≤ kz cnt d[y]!):Stb cnt d1:=by
 intro p q hpq hq hc;rw [hz] at hq;rw [←hr,←hr] at hc ⊢;by_cases p1:p<s
 ·rw [zV (x:=p) (by omega)] at hc ⊢
  by_cases q1:s≤q∧q<s+(e-m)
  ·rw [xN q1] at hc ⊢;exact S _ _ (by omega) (by omega) hc
  ·by_cases q2:s+(e-m)≤q∧q<e
   ·rw [xE q2] at hc ⊢;exact S _ _ (by omega) (by omega) hc
   ·rw [zV (x:=q) (by omega)] at hc ⊢;exact S _ _ (by omega) (by omega) hc
 ·by_cases p2:p<s+(e-m)
  ·rw [xN (x:=p) (by omega)] at hc ⊢
   by_cases q1:q<s+(e-m)
   ·rw [xN (x:=q) (by omega)] at hc ⊢;exact S _ _ (by omega) (by omega) hc
   ·by_cases q2:q<e
    ·rw [xE (x:=q) (by omega)] at hc ⊢
     have:=hb (p+(m-s)) (by omega) (by omega) (q-(e-m)) (by omega) (by omega);unfold kz at this;omega
    ·rw [zV (x:=q) (by omega)] at hc ⊢;exact S _ _ (by omega) (by omega) hc
  ·by_cases p3:p<e
   ·rw [xE (x:=p) (by omega)] at hc ⊢
    by_cases q2:q<e
    ·rw [xE (x:=q) (by omega)] at hc ⊢;exact S _ _ (by omega) (by omega) hc
    ·rw [zV (x:=q) (by omega)] at hc ⊢;exact S _ _ (by omega) (by omega) hc
   ·rw [zV (x:=p) (by omega),zV (x:=q) (by omega)] at hc ⊢;exact S _ _ hpq hq hc
theorem whole (key:Nat→Int) (d1 d2 d3:Array Nat) (lo mid hi s e:Nat) (hh:hi≤d1.size) (H:zlH key d1 lo mid hi s e) (p2:PermIn lo mid d1 d2) (a2:Asc key d2 lo mid)
  (p3:PermIn mid hi d2 d3) (a3:Asc key d3 mid hi):Asc key d3 lo hi:=by
 have hl:∀ x,lo≤x→x<mid→d3[x]! = d2[x]! := fun x _ hx=>zO p3 (.inl hx)
 have e2:d2.size=d1.size:=p2.1;have cross:∀ p,lo≤p→p<mid→∀ q,mid≤q→q<hi→key d3[p]! ≤ key d3[q]! := by
  intro p hp1 hp2;rw [hl p hp1 hp2];refine permIn_all d2 d3 mid hi (fun v=>key d2[p]! ≤ key v) (by omega) p3 ?_;intro q hq1 hq2;rw [zO p2 (.inr hq1)];exact permIn_all d1 d2 lo mid (fun v=>key v≤key d1[q]!) (by omega) p2 (fun x hx1 hx2=>H.x x q hx1 hx2 hq1 hq2) p hp1 hp2
 intro i j hi1 hij hj;by_cases c1:i<mid
 ·by_cases c2:j<mid
  ·rw [hl i hi1 c1,hl j (by omega) c2];exact a2 i j hi1 hij c2
  ·exact cross i hi1 c1 j (by omega) hj
 ·exact a3 i j (by omega) hij hj
end
section
open Go.Lib renaming hid → J
open Go.RowKit Go.Sort
structure Mg (key:Nat→Int) (w0:World) (b N:Nat) (d:Array Nat) (lo hi:Nat) (d':Array Nat) (W:World):Prop where
 s:Srt w0 b N d' W
 perm:PermIn lo hi d d'
 asc:Asc key d' lo hi
theorem Q6 (i j:Nat) (hi:i+j≤4000):wrap64 (IntKind.u64.wrap ((i+j:Nat):Int)/2)=(((i+j)/2:Nat):Int):=by
 rw [IntKind.wrap_u64];unfold wrap64;omega
set_option maxHeartbeats 8000000 in
set_option maxRecDepth 100000 in
theorem zdV (cnt:Nat→Int) (cx b N c lo m hi:Nat) (d:Array Nat) (w0 w:World) (HC0:Cmp cnt N cx b w0) (S:Srt w0 b N d w) (ST0:Stb cnt d) (h1:m=lo+1) (h2:m<hi) (h3:hi≤d.size) (hsz:d.size≤1000) (hB:Asc (kz cnt) d m hi) :
  Calls prog 198 #[.slice (some ⟨b,0,none⟩) d.size c,.int .i64 lo,.int .i64 m,.int .i64 hi,.func (.func 187) #[] #[.pointer (some ⟨cx,0,none⟩)]] w fun e w'=>
   e=.returned (.tuple #[])∧∃ d',Mg (kz cnt) w0 b N d lo hi d' w':=by
 have S0:=J S;have HC:=J HC0;have HB:=J hB;have hm1:=J h1;have e0:IntKind.i64.wrap ((m:Int)-lo)=1:=by rw [IntKind.wrap_i64];omega
 have ST:=J ST0;clear S HC0 hB ST0;have hlm:lo<m:=by omega
 have b0:(lo:Int)<d.size:=by omega
 clear h1;go_enter func198,ntmps198;go_wp2;go_loopw [10,11] (fun iv jv wr=>∃ i j:Nat,iv=.int .i64 i∧jv=.int .i64 j∧m≤i∧i≤j∧j≤hi∧Srt w0 b N d wr∧(∀ x,m≤x→x<i→kz cnt d[x]! < kz cnt d[lo]!)∧(∀ x,j≤x→x<hi→kz cnt d[lo]! ≤ kz cnt d[x]!)) (fun iv jv _=>(intOf jv).toNat-(intOf iv).toNat)
 case atStart=>exact ⟨m,hi,rfl,rfl,Nat.le_refl _,by omega,Nat.le_refl _,S0.out,fun x _ _=>by omega,fun x _ _=>by omega⟩
 case round=>
  obtain ⟨i,j,rfl,rfl,hmi,hij,hjh,hs,hg,hb⟩:=hrel;have SR:=J hs;have HG:=J hg;have HBd:=J hb;clear hs hg hb S0;by_cases hlt:i<j
  ·have hlt':(i:Int)<j:=by omega
   have e1:IntKind.i64.wrap ((i:Int)+j)=((i+j:Nat):Int):=by rw [IntKind.wrap_i64];omega
   have e2:=Q6 i j (by omega);obtain ⟨h,hh⟩:=exq ((i+j)/2);have hhi:i≤h∧h<j:=by omega
   obtain ⟨hhi1,hhi2⟩:=hhi;obtain ⟨sm,hsm⟩:=exq (i+j);rw [←hh] at e2;rw [←hsm] at e1 e2;clear hh hsm;have b1:(h:Int)<d.size:=by omega
   have ca:=SR.out.cell h (by omega);have cb:=SR.out.cell lo (by omega);obtain ⟨x,hx⟩:∃ x,x=d[h]! := ⟨_,rfl⟩;obtain ⟨y,hy⟩:∃ y,y=d[lo]! := ⟨_,rfl⟩;have HX:=J hx;have HY:=J hy;rw [←hx] at ca;rw [←hy] at cb;have HL:Hid (x<N∧y<N):=J ⟨by rw [hx];exact SR.out.lt h (by omega),by rw [hy];exact SR.out.lt lo (by omega)⟩;have HT:Hid ((x<1024∧y<1024)∧(cnt x=cnt y→y≤x)):=J ⟨⟨by have:=HC.out.1;have:=HL.out.1;omega,by have:=HC.out.1;have:=HL.out.2;omega⟩,fun he=>by rw [hx,hy] at he ⊢;exact ST.out lo h (by omega) (by omega) he.symm⟩
   have HCC:Hid (∀ n,Calls prog 187 #[.int .i64 (x:Nat),.int .i64 (y:Nat),.pointer (some ⟨cx,0,none⟩)] (wr.drewN n) fun e w'=>e=.returned (.int .i64 (ci (cnt x) (cnt y)))∧∃ q,w'=(wr.drewN n).drewN q):=
    J fun n=>HC.out.2 _ (SR.out.touch.drewN n) x y HL.out.1 HL.out.2
   clear hx hy;cases hlv:ltk (kz cnt) x y with
   | true=>
    have hv:=vD cnt x y HT.out hlv;obtain ⟨cv,hcv⟩:=exq (ci (cnt x) (cnt y));rw [←hcv] at HCC hv;have HLV:Hid (kz cnt x<kz cnt y):=J (of_decide_eq_true hlv);clear hcv hlv;go_wp2;go_quiet ((go_at_call 187;exact Calls.quiet_of (HCC.out _)))
    have SJ2:=J (SR.out.drewN nq);clear ca cb SR HCC;generalize wr.drewN nq=w2 at SJ2 ⊢;go_wp2;go_roundw;case rel=>
     refine ⟨h+1,j,by go_num,rfl,by omega,by omega,hjh,SJ2.out,fun z hz1 hz2=>?_,HBd.out⟩
     have:=HB.out z h hz1 (by omega) (by omega);have h4:=HLV.out;rw [HX.out,HY.out] at h4;omega
    case measure=>simp [intOf];omega
   | false=>
    have hv:¬ci (cnt x) (cnt y)<0:=of_decide_eq_false (uK cnt x y HT.out false hlv);obtain ⟨cv,hcv⟩:=exq (ci (cnt x) (cnt y));rw [←hcv] at HCC hv;have HLV:Hid (¬kz cnt x<kz cnt y):=J (of_decide_eq_false hlv);have hv':0≤cv:=by omega
    have hd:decide (cv<0)=false:=decide_eq_false hv;clear hcv hlv hv;go_wp2;go_quiet ((go_at_call 187;exact Calls.quiet_of (HCC.out _)))
    have SJ2:=J (SR.out.drewN nq);clear ca cb SR HCC;generalize wr.drewN nq=w2 at SJ2 ⊢;go_wp2;go_roundw;case rel=>
     refine ⟨i,h,rfl,rfl,hmi,hhi1,by omega,SJ2.out,HG.out,fun z hz1 hz2=>?_⟩
     have:=HB.out h z (by omega) hz1 hz2;have h4:=HLV.out;rw [HX.out,HY.out] at h4;omega
    case measure=>simp [intOf];omega
  ·have hij':i=j:=by omega
   subst hij';have e3:IntKind.i64.wrap ((i:Int)-1)=((i-1:Nat):Int):=by rw [IntKind.wrap_i64];omega
   obtain ⟨t,ht⟩:=exq (i-1-lo);have HT:=J ht;have ht2:lo+t=i-1:=by omega
   have ht3:i≤hi:=hjh;have HI2:=J (And.intro hmi hjh);rw [←ht2] at e3;clear ht;go_wp2;go_loopw [13] (fun kv w1=>∃ k:Nat,k≤t∧kv=.int .i64 ((lo+k:Nat):Int)∧Srt w0 b N (shl d lo k) w1) (fun kv _=>lo+t-(intOf kv).toNat)
   case atStart=>exact ⟨0,Nat.zero_le _,rfl,SR.out⟩
   case round=>
    obtain ⟨k,hk,rfl,hs⟩:=hrel;have S1:=J hs;clear hs SR;by_cases hkt:k<t
    ·obtain ⟨iN,hiN⟩:=exq (lo+k)
     obtain ⟨jN,hjN⟩:=exq (lo+k+1);have eN:=J (And.intro hiN hjN);have hcmp:((iN:Int)<((lo+t:Nat):Int)):=by omega
     have hsw:=um d lo k;obtain ⟨x,hx⟩:∃ x,x=(shl d lo k)[iN]! := ⟨_,rfl⟩;obtain ⟨y,hy⟩:∃ y,y=(shl d lo k)[jN]! := ⟨_,rfl⟩;have ca:=S1.out.cell iN (by omega);have cb:=S1.out.cell jN (by omega);have fa:=S1.out.free iN (by omega);have fb:=S1.out.free jN (by omega);obtain ⟨u,cc⟩:=S1.out.two iN jN (by omega) (by omega) (.int .i64 (y:Nat));have S3:=J (S1.out.swap iN jN (by omega) (by omega)).drew;rw [←hx,←hy] at S3;rw [←hx] at ca;rw [←hy] at cb;have e4:IntKind.i64.wrap ((iN:Int)+1)=jN:=by rw [IntKind.wrap_i64];omega
     have b1:(iN:Int)<d.size:=by omega
     have b2:(jN:Int)<d.size:=by omega
     rw [←hiN];clear hx hy hiN hjN hsw S1;go_wp2;go_region
     generalize ((wr.setCell ⟨b,iN,none⟩ (.int .i64 (y:Nat))).setCell ⟨b,jN,none⟩ (.int .i64 (x:Nat))).drew=w3 at S3 ⊢;go_wp2;go_roundw;case rel=>exact ⟨k+1,by omega,by have:=eN.out;first | go_num | (congr 1;omega),by rw [shl,←eN.out.2,←eN.out.1];exact S3.out⟩
     case measure=>have:=eN.out;simp [intOf];omega
    ·have hkt':k=t:=by omega
     subst hkt';go_wp2;refine bodyPost_ret (results_none rfl _ _ _) rfl ?_;have:=hm1.out;have h5:=HI2.out;refine ⟨rfl,_,S1.out,zgL d lo _ lo hi (Nat.le_refl _) (by omega) h3,?_⟩;rw [HT.out];exact zin (kz cnt) d lo hi i h3 (by omega) (by omega) (by rw [←this];exact HB.out) (by rw [←this];exact HG.out) HBd.out
set_option maxHeartbeats 8000000 in
set_option maxRecDepth 100000 in
theorem zbO (cnt:Nat→Int) (cx b N c lo m hi:Nat) (d:Array Nat) (w0 w:World) (HC0:Cmp cnt N cx b w0) (S:Srt w0 b N d w) (ST0:Stb cnt d) (h1:lo+1<m) (h2:hi=m+1) (h3:hi≤d.size) (hsz:d.size≤1000) (hA:Asc (kz cnt) d lo m) :
  Calls prog 198 #[.slice (some ⟨b,0,none⟩) d.size c,.int .i64 lo,.int .i64 m,.int .i64 hi,.func (.func 187) #[] #[.pointer (some ⟨cx,0,none⟩)]] w fun e w'=>
   e=.returned (.tuple #[])∧∃ d',Mg (kz cnt) w0 b N d lo hi d' w':=by
 have S0:=J S;have HC:=J HC0;have HB:=J hA;have hm1:=J h2;obtain ⟨dl,hdl⟩:=exq (m-lo);have e0:IntKind.i64.wrap ((m:Int)-lo)=dl:=by rw [IntKind.wrap_i64];omega
 have e0':((dl:Int) == 1)=false:=by simp;omega
 have e0'':IntKind.i64.wrap ((hi:Int)-m)=1:=by rw [IntKind.wrap_i64];omega
 have hm3:m<d.size:=by omega
 have ST:=J ST0;clear S HC0 hA h2 hdl ST0;have b0:(m:Int)<d.size:=by omega
 go_enter func198,ntmps198;go_wp2;clear e0 e0' e0'';go_loopw [14,15] (fun iv jv wr=>∃ i j:Nat,iv=.int .i64 i∧jv=.int .i64 j∧lo≤i∧i≤j∧j≤m∧Srt w0 b N d wr∧(∀ x,lo≤x→x<i→kz cnt d[x]! ≤ kz cnt d[m]!)∧(∀ x,j≤x→x<m→kz cnt d[m]! < kz cnt d[x]!)) (fun iv jv _=>(intOf jv).toNat-(intOf iv).toNat)
 case atStart=>exact ⟨lo,m,rfl,rfl,Nat.le_refl _,by omega,Nat.le_refl _,S0.out,fun x _ _=>by omega,fun x _ _=>by omega⟩
 case round=>
  obtain ⟨i,j,rfl,rfl,hmi,hij,hjh,hs,hg,hb⟩:=hrel;have SR:=J hs;have HG:=J hg;have HBd:=J hb;clear hs hg hb S0;by_cases hlt:i<j
  ·have hlt':(i:Int)<j:=by omega
   obtain ⟨h,hh⟩:=exq ((i+j)/2);have hhi:i≤h∧h<j:=by omega
   obtain ⟨hhi1,hhi2⟩:=hhi;have b1:(h:Int)<d.size:=by omega
   have ca:=SR.out.cell m (by omega);have cb:=SR.out.cell h (by omega);obtain ⟨x,hx⟩:∃ x,x=d[m]! := ⟨_,rfl⟩;obtain ⟨y,hy⟩:∃ y,y=d[h]! := ⟨_,rfl⟩;have HX:=J hx;have HY:=J hy;rw [←hx] at ca;rw [←hy] at cb;have HL:Hid (x<N∧y<N):=J ⟨by rw [hx];exact SR.out.lt m (by omega),by rw [hy];exact SR.out.lt h (by omega)⟩;have HT:Hid ((x<1024∧y<1024)∧(cnt x=cnt y→y≤x)):=J ⟨⟨by have:=HC.out.1;have:=HL.out.1;omega,by have:=HC.out.1;have:=HL.out.2;omega⟩,fun he=>by rw [hx,hy] at he ⊢;exact ST.out h m (by omega) (by omega) he.symm⟩
   have HCC:Hid (∀ n,Calls prog 187 #[.int .i64 (x:Nat),.int .i64 (y:Nat),.pointer (some ⟨cx,0,none⟩)] (wr.drewN n) fun e w'=>e=.returned (.int .i64 (ci (cnt x) (cnt y)))∧∃ q,w'=(wr.drewN n).drewN q):=
    J fun n=>HC.out.2 _ (SR.out.touch.drewN n) x y HL.out.1 HL.out.2
   clear hx hy;have e2:=Q6 i j (by omega);have e1:IntKind.i64.wrap ((i:Int)+j)=((i+j:Nat):Int):=by rw [IntKind.wrap_i64];omega
   obtain ⟨sm,hsm⟩:=exq (i+j);rw [←hh] at e2;rw [←hsm] at e1 e2;clear hh hsm;have E2:=J e2;cases hlv:ltk (kz cnt) x y with
   | true=>
    have hv:=vD cnt x y HT.out hlv;obtain ⟨cv,hcv⟩:=exq (ci (cnt x) (cnt y));rw [←hcv] at HCC hv;have HLV:Hid (kz cnt x<kz cnt y):=J (of_decide_eq_true hlv);have hd:decide (cv<0)=true:=decide_eq_true hv;clear hcv hlv;go_wp2;go_quiet ((go_at_call 187;exact Calls.quiet_of (HCC.out _)))
    rw [e2];clear e1 e2;have SJ2:=J (SR.out.drewN nq);clear ca cb SR HCC;generalize wr.drewN nq=w2 at SJ2 ⊢;go_wp2;go_roundw;case rel=>
     refine ⟨i,h,rfl,rfl,hmi,hhi1,by omega,SJ2.out,HG.out,fun z hz1 hz2=>?_⟩
     have:=HB.out h z (by omega) hz1 hz2;have h4:=HLV.out;rw [HX.out,HY.out] at h4;omega
    case measure=>simp [intOf];omega
   | false=>
    have hv:¬ci (cnt x) (cnt y)<0:=of_decide_eq_false (uK cnt x y HT.out false hlv);obtain ⟨cv,hcv⟩:=exq (ci (cnt x) (cnt y));rw [←hcv] at HCC hv;have HLV:Hid (¬kz cnt x<kz cnt y):=J (of_decide_eq_false hlv);have hv':0≤cv:=Int.not_lt.mp hv;have hd:decide (cv<0)=false:=decide_eq_false hv;clear hcv hlv hv;go_wp2;go_quiet ((go_at_call 187;exact Calls.quiet_of (HCC.out _)))
    clear e1 e2;have SJ2:=J (SR.out.drewN nq);clear ca cb SR HCC;generalize wr.drewN nq=w2 at SJ2 ⊢;go_wp2;go_roundw;case rel=>
     refine ⟨h+1,j,by go_num,rfl,by omega,by omega,hjh,SJ2.out,fun z hz1 hz2=>?_,HBd.out⟩
     have:=HB.out z h hz1 (by omega) (by omega);have h4:=HLV.out;rw [HX.out,HY.out] at h4;omega
    case measure=>simp [intOf];omega
  ·have hij':i=j:=by omega
   subst hij';obtain ⟨t,ht⟩:=exq (m-i);have HT:=J ht;have ht2:i+t=m:=by omega
   have HI2:=J (And.intro hmi hjh);clear ht;go_wp2;go_loopw [17] (fun kv w1=>∃ k:Nat,k≤t∧kv=.int .i64 ((m-k:Nat):Int)∧Srt w0 b N (shr d m k) w1) (fun kv _=>(intOf kv).toNat)
   case atStart=>exact ⟨0,Nat.zero_le _,rfl,SR.out⟩
   case round=>
    obtain ⟨k,hk,rfl,hs⟩:=hrel;have S1:=J hs;clear hs SR;by_cases hkt:k<t
    ·obtain ⟨iN,hiN⟩:=exq (m-k)
     obtain ⟨jN,hjN⟩:=exq (m-k-1);have eN:=J (And.intro hiN hjN);have hcmp:((i:Int)<(iN:Int)):=by omega
     have hsw:=yL d m k;obtain ⟨x,hx⟩:∃ x,x=(shr d m k)[iN]! := ⟨_,rfl⟩;obtain ⟨y,hy⟩:∃ y,y=(shr d m k)[jN]! := ⟨_,rfl⟩;have ca:=S1.out.cell iN (by omega);have cb:=S1.out.cell jN (by omega);have fa:=S1.out.free iN (by omega);have fb:=S1.out.free jN (by omega);obtain ⟨u,cc⟩:=S1.out.two iN jN (by omega) (by omega) (.int .i64 (y:Nat));have S3:=J (S1.out.swap iN jN (by omega) (by omega)).drew;rw [←hx,←hy] at S3;rw [←hx] at ca;rw [←hy] at cb;have e4:IntKind.i64.wrap ((iN:Int)-1)=jN:=by rw [IntKind.wrap_i64];omega
     have b1:(iN:Int)<d.size:=by omega
     have b2:(jN:Int)<d.size:=by omega
     have hle:jN<iN:=by omega
     rw [←hiN];clear hx hy hiN hjN hsw S1;go_wp2;go_region
     generalize ((wr.setCell ⟨b,iN,none⟩ (.int .i64 (y:Nat))).setCell ⟨b,jN,none⟩ (.int .i64 (x:Nat))).drew=w3 at S3 ⊢;go_wp2;go_roundw;case rel=>exact ⟨k+1,by omega,by have:=eN.out;first | rfl | go_num | (congr 1;omega),by rw [shr,←eN.out.2,←eN.out.1];exact S3.out⟩
     case measure=>have:=eN.out;simp [intOf];omega
    ·have hkt':k=t:=by omega
     subst hkt';have hcmp:decide ((i:Int)<((m-k:Nat):Int))=false:=decide_eq_false (by omega);have hcmp':((m-k:Nat):Int)≤i:=by omega
     go_wp2;refine bodyPost_ret (results_none rfl _ _ _) rfl ?_;have:=hm1.out;have h5:=HI2.out;refine ⟨rfl,_,S1.out,zhr d m _ lo hi (by omega) (by omega) h3,?_⟩;rw [HT.out,this];exact ziA (kz cnt) d lo m i hm3 (by omega) (by omega) HB.out HG.out HBd.out
def zb1 (cnt:Nat→Int) (cx b N c:Nat) (w0:World) (k:Nat):Prop:=
 ∀ (lo m hi:Nat) (d:Array Nat) (w:World),hi-lo≤k→Srt w0 b N d w→Stb cnt d→lo<m→m<hi→hi≤d.size→d.size≤1000→Asc (kz cnt) d lo m→Asc (kz cnt) d m hi→
  Calls prog 198 #[.slice (some ⟨b,0,none⟩) d.size c,.int .i64 lo,.int .i64 m,.int .i64 hi,.func (.func 187) #[] #[.pointer (some ⟨cx,0,none⟩)]] w fun e w'=>
   e=.returned (.tuple #[])∧∃ d',Mg (kz cnt) w0 b N d lo hi d' w'
set_option maxHeartbeats 16000000 in
set_option maxRecDepth 100000 in
theorem zd9 (cnt:Nat→Int) (cx b N c:Nat) (w0:World) (k:Nat) (HC0:Cmp cnt N cx b w0) (IH:zb1 cnt cx b N c w0 k) (lo m hi:Nat) (d:Array Nat) (w:World) (hk:hi-lo≤k+1) (S:Srt w0 b N d w) (ST0:Stb cnt d) (h1:lo+1<m) (h2:m+1<hi) (h3:hi≤d.size) (hsz:d.size≤1000) (hA:Asc (kz cnt) d lo m) (hB:Asc (kz cnt) d m hi) :
  Calls prog 198 #[.slice (some ⟨b,0,none⟩) d.size c,.int .i64 lo,.int .i64 m,.int .i64 hi,.func (.func 187) #[] #[.pointer (some ⟨cx,0,none⟩)]] w fun e w'=>
   e=.returned (.tuple #[])∧∃ d',Mg (kz cnt) w0 b N d lo hi d' w':=by
 have S0:=J S;have HC:=J HC0;have HI:=J IH;have HA:=J hA;have HB:=J hB;have HK:=J hk;have ST:=J ST0;clear S HC0 hA hB IH hk ST0;obtain ⟨dl,hdl⟩:=exq (m-lo);obtain ⟨dr,hdr⟩:=exq (hi-m);obtain ⟨sm,hsm⟩:=exq (lo+hi);obtain ⟨mid,hmid⟩:=exq ((lo+hi)/2);obtain ⟨nn,hnn⟩:=exq (mid+m);have HM:=J hmid;have hmid1:lo<mid:=by omega
 have hmid2:mid<hi:=by omega
 have HN:=J hnn;have E2:=J (Q6 lo hi (by omega));rw [←hmid,←hsm] at E2;have E1:=J (show IntKind.i64.wrap ((lo:Int)+hi)=sm by rw [IntKind.wrap_i64];omega);have E3:=J (show IntKind.i64.wrap ((mid:Int)+m)=nn by rw [IntKind.wrap_i64];omega);have F1:=J (show IntKind.i64.wrap ((m:Int)-lo)=dl by rw [IntKind.wrap_i64];omega);have F2:=J (show IntKind.i64.wrap ((hi:Int)-m)=dr by rw [IntKind.wrap_i64];omega);have g1:((dl:Int) == 1)=false:=by simp;omega
 have g2:((dr:Int) == 1)=false:=by simp;omega
 clear hdl hdr hsm hmid hnn;go_enter func198,ntmps198;have f1:=F1.out;go_upto_region 12 with fail
 clear f1;have f2:=F2.out;go_upto_region 24 with fail
 clear f2;have e1:=E1.out;have e2:=E2.out;go_upto_region 25 with fail
 rw [e2];clear e1 e2;have e3:=E3.out;go_upto_if 140 with fail
 clear e3;go_cut [20,21] from 25 (fun s20 s21 wx=>∃ s0 r0:Nat,s20=.int .i64 s0∧s21=.int .i64 r0∧wx=w∧((mid<m∧s0+hi=mid+m∧r0=mid)∨(m≤mid∧s0=lo∧r0=m)));case first=>
  by_cases hc:mid<m
  ·have hc':(mid:Int)<m:=by omega
   have Es:=J (show IntKind.i64.wrap ((nn:Int)-hi)=((mid+m-hi:Nat):Int) by have:=HN.out;have:=HM.out;rw [IntKind.wrap_i64];omega);have es:=Es.out;go_wp2;clear es;go_meet
   case rel=>
    exact ⟨_,_,rfl,rfl,rfl,.inl ⟨hc,by have:=HN.out;have:=HM.out;omega,rfl⟩⟩
  ·have hc':(m:Int)≤mid:=by omega
   go_wp2;go_meet
   case rel=>exact ⟨_,_,rfl,rfl,rfl,.inr ⟨by omega,rfl,rfl⟩⟩
 case rest=>
  obtain ⟨s0,r0,rfl,rfl,rfl,hs0⟩:=hcut;have HS:=J hs0;obtain ⟨pp,hpp⟩:=exq (nn-1);have HP:Hid (pp+1=mid+m):=J (by have:=HN.out;omega);have ep:=(show IntKind.i64.wrap ((nn:Int)-1)=pp by have:=HN.out;rw [IntKind.wrap_i64];omega);have hr0:s0≤r0:=by have:=HM.out;omega
  have hr1:lo≤s0:=by have:=HM.out;omega
  have hr2:r0≤m:=by omega
  have hr3:r0≤mid:=by omega
  have hr4:mid+m≤hi+s0:=by have:=HM.out;omega
  clear hs0 hpp;go_wp2;clear ep;go_loopw [20,21] (fun iv jv wr=>∃ i j:Nat,iv=.int .i64 i∧jv=.int .i64 j∧s0≤i∧i≤j∧j≤r0∧Srt w0 b N d wr∧(∀ x,s0≤x→x<i→kz cnt d[x]! ≤ kz cnt d[mid+m-1-x]!)∧(∀ x,j≤x→x<r0→kz cnt d[mid+m-1-x]! < kz cnt d[x]!)) (fun iv jv _=>(intOf jv).toNat-(intOf iv).toNat)
  case atStart=>exact ⟨s0,r0,rfl,rfl,Nat.le_refl _,hr0,Nat.le_refl _,S0.out,fun x _ _=>by omega,fun x _ _=>by omega⟩
  case round=>
   obtain ⟨i,j,rfl,rfl,hmi,hij,hjh,hs,hg,hb⟩:=hrel;have SR:=J hs;have HG:=J hg;have HBd:=J hb;clear hs hg hb S0;by_cases hlt:i<j
   ·have hlt':(i:Int)<j:=by omega
    obtain ⟨h,hh⟩:=exq ((i+j)/2);have hhi:i≤h∧h<j:=by omega
    obtain ⟨hhi1,hhi2⟩:=hhi;obtain ⟨g,hgg⟩:=exq (pp-h);have hg1:h≤pp:=by have:=HP.out;omega
    have hg2:m≤g:=by have:=HP.out;omega
    have hg3:g<hi:=by have:=HP.out;omega
    have hg4:Hid (g=mid+m-1-h):=J (by have:=HP.out;omega);have EG:=J (show IntKind.i64.wrap ((pp:Int)-h)=g by rw [IntKind.wrap_i64];omega);have b1:(h:Int)<d.size:=by omega
    have b2:(g:Int)<d.size:=by omega
    have E1':=J (show IntKind.i64.wrap ((i:Int)+j)=((i+j:Nat):Int) by rw [IntKind.wrap_i64];omega);have E2':=J (Q6 i j (by omega));obtain ⟨sq,hsq⟩:=exq (i+j);rw [←hh] at E2';rw [←hsq] at E1' E2';clear hh hsq hgg;have ca:=SR.out.cell g (by omega);have cb:=SR.out.cell h (by omega);obtain ⟨x,hx⟩:∃ x,x=d[g]! := ⟨_,rfl⟩;obtain ⟨y,hy⟩:∃ y,y=d[h]! := ⟨_,rfl⟩;have HX:=J hx;have HY:=J hy;rw [←hx] at ca;rw [←hy] at cb;have HL:Hid (x<N∧y<N):=J ⟨by rw [hx];exact SR.out.lt g (by omega),by rw [hy];exact SR.out.lt h (by omega)⟩;have HT:Hid ((x<1024∧y<1024)∧(cnt x=cnt y→y≤x)):=J ⟨⟨by have:=HC.out.1;have:=HL.out.1;omega,by have:=HC.out.1;have:=HL.out.2;omega⟩,fun he=>by rw [hx,hy] at he ⊢;exact ST.out h g (by omega) (by omega) he.symm⟩
    have HCC:Hid (∀ n,Calls prog 187 #[.int .i64 (x:Nat),.int .i64 (y:Nat),.pointer (some ⟨cx,0,none⟩)] (wr.drewN n) fun e w'=>e=.returned (.int .i64 (ci (cnt x) (cnt y)))∧∃ q,w'=(wr.drewN n).drewN q):=
     J fun n=>HC.out.2 _ (SR.out.touch.drewN n) x y HL.out.1 HL.out.2
    clear hx hy;have ex1:∀ z,z≤h→s0≤z→m≤mid+m-1-z∧mid+m-1-z<hi∧g≤mid+m-1-z:=fun z hz hz2=>by have:=hg4.out;omega
    have ex2:∀ z,h≤z→z<r0→m≤mid+m-1-z∧mid+m-1-z≤g:=fun z hz hz2=>by have:=hg4.out;omega
    have EX:=J (And.intro ex1 ex2);clear ex1 ex2;cases hlv:ltk (kz cnt) x y with
    | true=>
     have hv:=vD cnt x y HT.out hlv;obtain ⟨cv,hcv⟩:=exq (ci (cnt x) (cnt y));rw [←hcv] at HCC hv;have HLV:Hid (kz cnt x<kz cnt y):=J (of_decide_eq_true hlv);have hd:decide (cv<0)=true:=decide_eq_true hv;clear hcv hlv;have e1:=E1'.out;have e2:=E2'.out;go_wp2;try rw [e2]
     clear e1 e2;have eg:=EG.out;go_quiet ((go_at_call 187;exact Calls.quiet_of (HCC.out _)))
     clear eg;have SJ2:=J (SR.out.drewN nq);clear ca cb SR HCC;generalize wr.drewN nq=w2 at SJ2 ⊢;go_wp2;go_roundw;case rel=>
      refine ⟨i,h,rfl,rfl,hmi,hhi1,by omega,SJ2.out,HG.out,fun z hz1 hz2=>?_⟩
      have q:=EX.out.2 z hz1 hz2;have q1:=HA.out h z (by omega) hz1 (by omega);have q2:=HB.out (mid+m-1-z) g q.1 q.2 hg3;have h4:=HLV.out;rw [HX.out,HY.out] at h4;omega
     case measure=>simp [intOf];omega
    | false=>
     have hv:¬ci (cnt x) (cnt y)<0:=of_decide_eq_false (uK cnt x y HT.out false hlv);obtain ⟨cv,hcv⟩:=exq (ci (cnt x) (cnt y));rw [←hcv] at HCC hv;have HLV:Hid (¬kz cnt x<kz cnt y):=J (of_decide_eq_false hlv);have hv':0≤cv:=Int.not_lt.mp hv;have hd:decide (cv<0)=false:=decide_eq_false hv;clear hcv hlv hv;have e1:=E1'.out;have e2:=E2'.out;go_wp2;try rw [e2]
     clear e1 e2;have eg:=EG.out;go_quiet ((go_at_call 187;exact Calls.quiet_of (HCC.out _)))
     clear eg;have SJ2:=J (SR.out.drewN nq);clear ca cb SR HCC;generalize wr.drewN nq=w2 at SJ2 ⊢;go_wp2;go_roundw;case rel=>
      refine ⟨h+1,j,by go_num,rfl,by omega,by omega,hjh,SJ2.out,fun z hz1 hz2=>?_,HBd.out⟩
      have q:=EX.out.1 z (by omega) hz1;have q1:=HA.out z h (by omega) (by omega) (by omega);have q2:=HB.out g (mid+m-1-z) hg2 q.2.2 q.2.1;have h4:=HLV.out;rw [HX.out,HY.out] at h4;omega
     case measure=>simp [intOf];omega
   ·have hij':i=j:=by omega
    subst hij';have CA:=J (zlf (kz cnt) d lo m hi mid i s0 r0 (by omega) (by omega) HM.out HA.out HB.out (by rcases HS.out with h | h;exact .inl ⟨h.1,by omega,h.2.2⟩;exact .inr h) ⟨hmi,hjh⟩ HG.out HBd.out);obtain ⟨en,hen⟩:=exq (m+mid-i);have hm1:i≤m:=CA.out.a.2;have hm2:i≤mid:=CA.out.l;have hm3:lo≤i:=CA.out.a.1;have hm4:m≤en∧en≤hi:=by have:=CA.out.e;omega
    obtain ⟨hm5,hm6⟩:=hm4;have EN:=J hen;have ee:=(show IntKind.i64.wrap ((nn:Int)-i)=en by have:=HN.out;rw [IntKind.wrap_i64];omega);have hem:mid≤en:=by omega
    clear hen;go_upto_region 39 with fail
    clear ee;go_cut [185] from 178 (fun cv wx=>cv=.bool (decide (i<m∧m<en))∧wx=wr);case first=>
     by_cases q1:i<m
     ·have q1':(i:Int)<m:=by omega
      by_cases q2:m<en
      ·have q2':(m:Int)<en:=by omega
       go_wp2;go_meet
       case rel=>exact ⟨by simp [q1,q2],rfl⟩
      ·have q2':(en:Int)≤m:=by omega
       go_wp2;go_meet
       case rel=>exact ⟨by simp [q1,q2],rfl⟩
     ·have q1':(m:Int)≤i:=by omega
      go_wp2;go_meet
      case rel=>exact ⟨by simp [q1],rfl⟩
    case rest=>
    obtain ⟨rfl,rfl⟩:=hcut;go_upto_if 185 with fail
    go_cut [] from 178 (fun wx=>∃ d1,Srt w0 b N d1 wx∧PermIn i en d d1∧∀ x,kG d i m en x=d1[x]!);case first=>
     by_cases q:i<m∧m<en
     ·have q':decide (i<m∧m<en)=true:=decide_eq_true q
      have HR:=J (zaV cx b N c i m en d w0 wc SR.out q.1 q.2 (by omega) hsz);rw [q'];clear q q';go_wp2_with (go_at_call 199;(with_reducible refine HR.out.mono ?_);rintro e w' ⟨rfl,d1,hR1⟩;have HR1:=J hR1;clear hR1);go_meet
      case rel=>exact ⟨d1,HR1.out.s,HR1.out.perm,HR1.out.at_⟩
     ·have q':decide (i<m∧m<en)=false:=decide_eq_false q
      have q3:=J (show i=m∨m=en by omega);rw [q'];clear q q';go_wp2;go_meet
      case rel=>exact ⟨d,SR.out,permIn_refl _ _ _,fun x=>zf4 d i m en x q3.out hm1 hm5⟩
    case rest=>
    obtain ⟨d1,hsd1,hp1,hr1⟩:=hcut;have S1:=J hsd1;have P1:=J hp1;have HH:=J (half (kz cnt) d d1 lo m hi mid i (by omega) HM.out HA.out HB.out CA.out (by rw [←EN.out];exact hr1));rw [←EN.out] at HH;have hz1:d1.size=d.size:=hp1.1;have T1:Hid (Stb cnt d1):=J (ziL ST.out hm1 hm5 (by omega) hz1 hr1 (by rw [EN.out];exact CA.out.bad));clear hsd1 hp1 hr1 SR;go_upto_region 41 with fail
    go_cut [199] from 192 (fun cv wx=>cv=.bool (decide (lo<i∧i<mid))∧wx=wc);case first=>
     by_cases q1:lo<i
     ·have q1':(lo:Int)<i:=by omega
      by_cases q2:i<mid
      ·have q2':(i:Int)<mid:=by omega
       go_wp2;go_meet
       case rel=>exact ⟨by simp [q1,q2],rfl⟩
      ·have q2':(mid:Int)≤i:=by omega
       go_wp2;go_meet
       case rel=>exact ⟨by simp [q1,q2],rfl⟩
     ·have q1':(i:Int)≤lo:=by omega
      go_wp2;go_meet
      case rel=>exact ⟨by simp [q1],rfl⟩
    case rest=>
    obtain ⟨rfl,rfl⟩:=hcut;go_upto_if 199 with fail
    go_cut [] from 192 (fun wx=>∃ d2,Mg (kz cnt) w0 b N d1 lo mid d2 wx);case first=>
     by_cases q:lo<i∧i<mid
     ·have q':decide (lo<i∧i<mid)=true:=decide_eq_true q
      have HR:=J (HI.out lo i mid d1 wc (by have:=HK.out;omega) S1.out T1.out q.1 q.2 (by omega) (by omega) HH.out.l1 HH.out.l2);rw [hz1] at HR;rw [q'];clear q q';go_wp2_with (go_at_call 198;(with_reducible refine HR.out.mono ?_);rintro e w' ⟨rfl,d2,hR1⟩;have HR1:=J hR1;clear hR1);go_meet
      case rel=>exact ⟨d2,HR1.out⟩
     ·have q':decide (lo<i∧i<mid)=false:=decide_eq_false q
      have q3:=J (show i=lo∨i=mid by omega);rw [q'];clear q q';go_wp2;go_meet
      case rel=>
       refine ⟨d1,S1.out,permIn_refl _ _ _,?_⟩;rcases q3.out with h | h
       ·have:=HH.out.l2;rwa [h] at this
       ·have:=HH.out.l1;rwa [h] at this
    case rest=>
    obtain ⟨d2,hm2'⟩:=hcut;have M2:=J hm2';have hz2:d2.size=d.size:=by rw [←hz1];exact hm2'.perm.1
    have T2:Hid (Stb cnt d2):=J (ul (by omega) T1.out hm2'.perm hm2'.asc);clear hm2' S1;go_upto_region 43 with fail
    go_cut [213] from 206 (fun cv wx=>cv=.bool (decide (mid<en∧en<hi))∧wx=wc);case first=>
     by_cases q1:mid<en
     ·have q1':(mid:Int)<en:=by omega
      by_cases q2:en<hi
      ·have q2':(en:Int)<hi:=by omega
       go_wp2;go_meet
       case rel=>exact ⟨by simp [q1,q2],rfl⟩
      ·have q2':(hi:Int)≤en:=by omega
       go_wp2;go_meet
       case rel=>exact ⟨by simp [q1,q2],rfl⟩
     ·have q1':(en:Int)≤mid:=by omega
      go_wp2;go_meet
      case rel=>exact ⟨by simp [q1],rfl⟩
    case rest=>
    obtain ⟨rfl,rfl⟩:=hcut;have RA:Hid (∀ x,mid≤x→d2[x]! = d1[x]!):=J fun x hx=>zO M2.out.perm (.inr hx)
    have A1:Hid (Asc (kz cnt) d2 mid en):=J (HH.out.r1.congr fun x hx _=>RA.out x hx);have A2:Hid (Asc (kz cnt) d2 en hi):=J (HH.out.r2.congr fun x hx _=>RA.out x (by omega))
    have PT:Hid (PermIn lo hi d d2):=J (permIn_trans _ _ _ _ _ (permIn_mono _ _ _ _ _ _ hm3 hm6 h3 P1.out) (permIn_mono _ _ _ _ _ _ (Nat.le_refl _) (by omega) (by omega) M2.out.perm));have FIN:Hid (∀ d3,PermIn mid hi d2 d3→Asc (kz cnt) d3 mid hi→PermIn lo hi d d3∧Asc (kz cnt) d3 lo hi):=J fun d3 p3 a3=>
     ⟨permIn_trans _ _ _ _ _ PT.out (permIn_mono _ _ _ _ _ _ (by omega) (Nat.le_refl _) (by omega) p3),whole (kz cnt) d1 d2 d3 lo mid hi i en (by omega) HH.out M2.out.perm M2.out.asc p3 a3⟩
    clear RA PT HH P1;by_cases q:mid<en∧en<hi
    ·have q':decide (mid<en∧en<hi)=true:=decide_eq_true q
     have HR:=J (HI.out mid en hi d2 wc (by have:=HK.out;omega) M2.out.s T2.out q.1 q.2 (by omega) (by omega) A1.out A2.out);rw [hz2] at HR;rw [q'];clear q q';go_wp2_with (go_at_call 198;(with_reducible refine HR.out.mono ?_);rintro e w' ⟨rfl,d3,hR1⟩;have HR1:=J hR1;clear hR1);go_end0;have:=FIN.out d3 HR1.out.perm HR1.out.asc;exact ⟨rfl,d3,HR1.out.s,this.1,this.2⟩
    ·have q':decide (mid<en∧en<hi)=false:=decide_eq_false q
     have q3:=J (show mid=en∨en=hi by omega);rw [q'];clear q q';go_wp2;go_end0;have A3:Asc (kz cnt) d2 mid hi:=by
      rcases q3.out with h | h
      ·rw [h];exact A2.out
      ·have:=A1.out;rwa [h] at this
     have:=FIN.out d2 (permIn_refl _ _ _) A3;exact ⟨rfl,d2,M2.out.s,this.1,this.2⟩
theorem Qi (cnt:Nat→Int) (cx b N c:Nat) (w0:World) (HC:Cmp cnt N cx b w0) (k:Nat):zb1 cnt cx b N c w0 k:=by
 induction k with
 | zero=>intro lo m hi d w hk _ _ h1 h2;omega
 | succ k ih=>
  intro lo m hi d w hk S ST h1 h2 h3 hsz hA hB;by_cases c1:m=lo+1
  ·exact zdV cnt cx b N c lo m hi d w0 w HC S ST c1 h2 h3 hsz hB
  ·by_cases c2:hi=m+1
   ·exact zbO cnt cx b N c lo m hi d w0 w HC S ST (by omega) c2 h3 hsz hA
   ·exact zd9 cnt cx b N c w0 k HC ih lo m hi d w hk S ST (by omega) (by omega) h3 hsz hA hB
end
end Go.Proofs.YtacpfpghokcdlaaGreatDoor.Y
