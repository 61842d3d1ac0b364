/- Part 16. -/
import Derived.Deep.Slices
import Derived.Deep.Strs
import Derived.Test.YthbbpooobaahiaaGreatDoorXB15
namespace Go.Proofs.YthbbpooobaahiaaGreatDoor.Zz
set_option maxRecDepth 100000
theorem win_app (a b:List Nat) (k n:Nat):((a++b).drop (a.length+k)).take n=(b.drop k).take n:=by
 rw [List.drop_append,List.drop_of_length_le (by omega),List.nil_append,Nat.add_sub_cancel_left]
theorem nu2_app (a b:List Nat) (k:Nat):nu2 (a++b) (a.length+k)=nu2 b k:=by unfold nu2;rw [win_app]
theorem nu4_app (a b:List Nat) (k:Nat):nu4 (a++b) (a.length+k)=nu4 b k:=by unfold nu4;rw [win_app]
theorem dropc (b:List Nat) (k:Nat) (h:k<b.length):b.drop k=b.getD k 0::b.drop (k+1):=by rw [List.drop_eq_getElem_cons h];simp [List.getD,h]
theorem win4 (b:List Nat) (k:Nat) (h:k+4≤b.length):(b.drop k).take 4=[b.getD k 0,b.getD (k+1) 0,b.getD (k+2) 0,b.getD (k+3) 0]:=by
 rw [dropc b k (by omega),dropc b (k+1) (by omega),dropc b (k+1+1) (by omega),dropc b (k+1+1+1) (by omega)]
 rfl
theorem nu4_sign {b:List Nat} (hb:Bs b) {k:Nat} (h:k+4≤b.length) (hs:nu4 b k=101010256):b.getD k 0=80∧b.getD (k+1) 0=75∧b.getD (k+2) 0=5∧b.getD (k+3) 0=6:=by
 have hg:∀ j,b.getD j 0<256:=fun j=>by
  simp only [List.getD]
  cases hj:b[j]? with
  | none=>simp
  | some x=>exact hb x (List.mem_of_getElem? hj)
 unfold nu4 at hs
 rw [win4 b k h] at hs
 have h0:=hg k;have h1:=hg (k+1);have h2:=hg (k+2);have h3:=hg (k+3)
 simp only [Cu.num] at hs
 omega
theorem endB_down {xs:List Nat}:∀ {n k:Nat},k≤n→(∀ j,k≤j→j<n→¬(nu4 xs j=101010256∧j+22+nu2 xs (j+20)=xs.length))→endB xs n=endB xs k:=by
 intro n
 induction n with
 | zero=>intro k hk _;rw [Nat.le_zero.1 hk]
 | succ n ih=>
  intro k hk h
  by_cases hkn:k=n+1
  ·rw [hkn]
  ·rw [endB,if_neg (h n (by omega) (by omega))]
   exact ih (by omega) fun j h1 h2=>h j h1 (by omega)
theorem endP_at {a z:List Nat} (hb:Bs (a++z)) (h22:22≤z.length) (hs:nu4 z 0=101010256) (hr:22+nu2 z 20=z.length)
  (hn:∀ j,1≤j→j+4≤z.length→¬(z.getD j 0=80∧z.getD (j+1) 0=75∧z.getD (j+2) 0=5∧z.getD (j+3) 0=6)):endP (a++z)=some a.length:=by
 have hz:Bs z:=fun x hx=>hb x (List.mem_append_right _ hx)
 unfold endP
 rw [endB_down (k:=a.length+1) (by simp;omega) fun j h1 h2=>?_]
 ·rw [endB,if_pos]
  have e0:=nu4_app a z 0
  have e2:=nu2_app a z 20
  simp only [Nat.add_zero] at e0
  rw [e0,e2]
  exact ⟨hs,by simp;omega⟩
 ·rintro ⟨h3,_⟩
  obtain ⟨i,rfl⟩:∃ i,j=a.length+i:=⟨j-a.length,by omega⟩
  rw [nu4_app] at h3
  have hl:i+22≤z.length:=by simp at h2;omega
  exact hn i (by omega) (by omega) (nu4_sign hz (by omega) h3)
theorem le2_is (n:Int):Cu.le n 2=[(n%256).toNat,(n/256%256).toNat]:=by simp [Cu.le]
theorem le4_is (n:Int):Cu.le n 4=[(n%256).toNat,(n/256%256).toNat,(n/65536%256).toNat,(n/16777216%256).toNat]:=by simp [Cu.le]
def stoE (n R H:Nat) (rem:List Nat):List Nat:=[80,75,5,6,0,0,0,0]++Cu.le n 2++Cu.le n 2++Cu.le R 4++Cu.le H 4++Cu.le rem.length 2++rem
theorem stoE_is (n R H:Nat) (rem:List Nat):stoE n R H rem=80::75::5::6::0::0::0::0::((n:Int)%256).toNat::((n:Int)/256%256).toNat::((n:Int)%256).toNat::((n:Int)/256%256).toNat ::
  ((R:Int)%256).toNat::((R:Int)/256%256).toNat::((R:Int)/65536%256).toNat::((R:Int)/16777216%256).toNat::((H:Int)%256).toNat::((H:Int)/256%256).toNat::((H:Int)/65536%256).toNat::((H:Int)/16777216%256).toNat ::
  ((rem.length:Int)%256).toNat::((rem.length:Int)/256%256).toNat::rem:=by
 simp only [stoE,le2_is,le4_is,List.cons_append,List.nil_append]
theorem stoE_len (n R H:Nat) (rem:List Nat):(stoE n R H rem).length=22+rem.length:=by rw [stoE_is];simp;omega
theorem stoE_nu (n R H:Nat) (rem:List Nat) (hn:n<65536) (hR:R<4294967296) (hH:H<4294967296) (hm:rem.length<65536) :
  nu4 (stoE n R H rem) 0=101010256∧nu2 (stoE n R H rem) 4=0∧nu2 (stoE n R H rem) 6=0∧nu2 (stoE n R H rem) 8=n∧nu2 (stoE n R H rem) 10=n∧nu4 (stoE n R H rem) 12=R∧nu4 (stoE n R H rem) 16=H∧nu2 (stoE n R H rem) 20=rem.length:=by
 rw [stoE_is]
 simp only [nu2,nu4,List.drop_succ_cons,List.drop_zero,List.take_succ_cons,List.take_zero,Cu.num]
 refine ⟨trivial,trivial,trivial,by omega,by omega,by omega,by omega,by omega⟩
theorem stoE_bs (n R H:Nat) {rem:List Nat} (hb:Bs rem):Bs (stoE n R H rem):=by
 rw [stoE_is]
 intro x hx
 simp only [List.mem_cons] at hx
 rcases hx with h | h | h | h | h | h | h | h | h | h | h | h | h | h | h | h | h | h | h | h | h | h | h
 case inr.inr.inr.inr.inr.inr.inr.inr.inr.inr.inr.inr.inr.inr.inr.inr.inr.inr.inr.inr.inr.inr=>exact hb x h
 all_goals omega
theorem stoE_no (n R H:Nat) (rem:List Nat) (hn:n<80) (hR:R<65536) (hH:H<65536) (hm:rem.length<4096) (hP:∀ x∈rem,x≠80) (j:Nat) (h1:1≤j) :
  ¬((stoE n R H rem).getD j 0=80∧(stoE n R H rem).getD (j+1) 0=75∧(stoE n R H rem).getD (j+2) 0=5∧(stoE n R H rem).getD (j+3) 0=6):=by
 rw [stoE_is]
 by_cases hj:j<22
 ·have hc:j=1∨j=2∨j=3∨j=4∨j=5∨j=6∨j=7∨j=8∨j=9∨j=10∨j=11∨j=12∨j=13∨j=14∨j=15∨j=16∨j=17∨j=18∨j=19∨j=20∨j=21:=by omega
  rcases hc with rfl | rfl | rfl | rfl | rfl | rfl | rfl | rfl | rfl | rfl | rfl | rfl | rfl | rfl | rfl | rfl | rfl | rfl | rfl | rfl | rfl <;> simp only [List.getD_cons_succ,List.getD_cons_zero] <;> omega
 ·obtain ⟨i,rfl⟩:∃ i,j=i+22:=⟨j-22,by omega⟩
  rintro ⟨h,_⟩
  simp only [List.getD_cons_succ] at h
  have hi:i<rem.length:=by
   by_cases hi:i<rem.length
   ·exact hi
   ·simp [List.getD,List.getElem?_eq_none (show rem.length≤i by omega)] at h
  rw [List.getD_eq_getElem?_getD,List.getElem?_eq_getElem hi] at h
  exact hP _ (List.getElem_mem hi) h
theorem endP_sto {a:List Nat} {n R H:Nat} {rem:List Nat} (ha:Bs a) (hr:Bs rem) (hn:n<80) (hR:R<65536) (hH:H<65536) (hm:rem.length<4096) (hP:∀ x∈rem,x≠80):endP (a++stoE n R H rem)=some a.length:=by
 obtain ⟨h0,_,_,_,_,_,_,h20⟩:=stoE_nu n R H rem (by omega) (by omega) (by omega) (by omega)
 refine endP_at (fun x hx=>(List.mem_append.1 hx).elim (ha x) (stoE_bs n R H hr x)) (by rw [stoE_len];omega) h0 (by rw [stoE_len,h20]) fun j h1 _=>stoE_no n R H rem hn hR hH hm hP j h1
theorem endE_sto (a:List Nat) (n R H:Nat) (rem:List Nat) (E:Int) (hn:n<65535) (hR:R<65536) (hH:H<65536) (hm:rem.length<4096) :
  endE (a++stoE n R H rem) a.length E=if H+R≠a.length then 10 else if max E 0<(n:Int) then 14 else 0:=by
 obtain ⟨_,h4,h6,h8,h10,h12,h16,_⟩:=stoE_nu n R H rem (by omega) (by omega) (by omega) (by omega)
 unfold endE
 rw [nu2_app,nu2_app,nu2_app,nu2_app,nu4_app,nu4_app,h4,h6,h8,h10,h12,h16]
 rw [if_neg (by unfold big;omega)]
 by_cases h:H+R=a.length
 ·rw [if_neg (show ¬(n≠n∨H+R≠a.length) by omega),if_neg (show ¬(H+R≠a.length) by omega)]
 ·rw [if_pos (show n≠n∨H+R≠a.length from .inr h),if_pos h]
theorem openP_sto {a:List Nat} {n R H:Nat} {rem:List Nat} {B E:Int} (ha:Bs a) (hr:Bs rem) (hn:n<80) (hR:R<65536) (hH:H<65536) (hm:rem.length<4096) (hP:∀ x∈rem,x≠80) (hB:((a++stoE n R H rem).length:Int)≤max B 0) :
  openP (a++stoE n R H rem) B E=if H+R≠a.length then .error 10 else if max E 0<(n:Int) then .error 14 else
   match rowsP a n H [] with
   | .error f => .error f
   | .ok l => .ok (l,H,a.length):=by
 obtain ⟨_,_,_,_,h10,_,h16,_⟩:=stoE_nu n R H rem (by omega) (by omega) (by omega) (by omega)
 unfold openP
 rw [if_neg (by omega),endP_sto ha hr hn hR hH hm hP]
 simp only
 rw [endE_sto a n R H rem E (by omega) hR hH hm,nu2_app,nu4_app,h10,h16,List.take_left]
 by_cases h:H+R=a.length
 ·rw [if_neg (show ¬(H+R≠a.length) by omega)]
  by_cases hE:max E 0<(n:Int)
  ·rw [if_pos hE,if_pos (by decide),if_neg (by omega),if_pos hE]
  ·rw [if_neg hE,if_neg (by decide),if_neg (by omega),if_neg hE]
   cases rowsP a n H [] <;> rfl
 ·rw [if_pos h,if_pos (by decide),if_pos h]
theorem readP_remark {a:List Nat} {n R H:Nat} {rem:List Nat} {B E T:Int} (ha:Bs a) (hr:Bs rem) (hn:n<80) (hR:R<65536) (hH:H<65536) (hm:rem.length<4096) (hP:∀ x∈rem,x≠80) (hB:((a++stoE n R H rem).length:Int)≤max B 0) (hHa:H≤a.length) :
  readP (a++stoE n R H rem) B E T=readP (a++stoE n R H []) B E T:=by
 have hB':((a++stoE n R H []).length:Int)≤max B 0:=by simp only [List.length_append,stoE_len,List.length_nil] at hB ⊢;omega
 unfold readP
 rw [openP_sto ha hr hn hR hH hm hP hB,openP_sto ha (fun x h=>by cases h) hn hR hH (by simp) (fun x h=>by cases h) hB']
 by_cases h:H+R=a.length
 ·rw [if_neg (by omega)]
  by_cases hE:max E 0<(n:Int)
  ·rw [if_pos hE]
  ·rw [if_neg hE]
   cases rowsP a n H [] with
   | error f=>rfl
   | ok l=>
    simp only
    rw [List.take_append_of_le_length hHa,List.take_append_of_le_length hHa]
 ·rw [if_pos h]
def nmB (s:ByteArray):List Nat:=s.data.toList.map (·.toNat)
theorem nmB_len (s:ByteArray):(nmB s).length=s.size:=by simp [nmB]
theorem nmB_txt (s:ByteArray):txt (nmB s)=s:=by
 unfold txt nmB
 have:(s.data.toList.map (·.toNat)).map UInt8.ofNat=s.data.toList:=by
  rw [List.map_map]
  conv=>rhs;rw [←List.map_id s.data.toList]
  exact List.map_congr_left fun x _=>by simp
 rw [this]
theorem nmB_bs (s:ByteArray):Bs (nmB s):=by
 intro x hx
 obtain ⟨c,_,rfl⟩:=List.mem_map.1 hx
 exact c.toNat_lt
structure Sto where
 nm:ByteArray
 d:List Nat
 sum:Nat
def stoB (x:Sto):List Nat:=Cu.le x.sum 4++Cu.le x.d.length 4++Cu.le x.d.length 4++Cu.le x.nm.size 2++Cu.le 0 2
def hdB (x:Sto):List Nat:=[80,75,3,4,20,0,0,0,0,0,0,0,33,0]++stoB x++nmB x.nm++x.d
def rwB (a:Nat) (x:Sto):List Nat:=[80,75,1,2,20,0,20,0,0,0,0,0,0,0,33,0]++stoB x++[0,0,0,0,0,0,0,0,0,0]++Cu.le a 4++nmB x.nm
def HH (l:List Sto):List Nat:=l.flatMap hdB
def RR:Nat→List Sto→List Nat
 | _,[]=>[]
 | a,x::r=>rwB a x++RR (a+(hdB x).length) r
def stoP (l:List Sto):List Nat:=HH l++RR 0 l++stoE l.length (RR 0 l).length (HH l).length []
theorem HH_app (a b:List Sto):HH (a++b)=HH a++HH b:=by simp [HH]
theorem RR_app:∀ (a b:List Sto) (k:Nat),RR k (a++b)=RR k a++RR (k+(HH a).length) b
 | [],b,k=>by simp [RR,HH]
 | x::a,b,k=>by
  rw [List.cons_append,RR,RR_app a b,RR,List.append_assoc]
  congr 3
  simp [HH];omega
structure Fits (x:Sto):Prop where
 nm:x.nm.size<65536
 d:x.d.length<4294967295
 sum:x.sum<4294967296
 bs:Bs x.d
theorem stoB_is (x:Sto):stoB x=((x.sum:Int)%256).toNat::((x.sum:Int)/256%256).toNat::((x.sum:Int)/65536%256).toNat::((x.sum:Int)/16777216%256).toNat ::
  ((x.d.length:Int)%256).toNat::((x.d.length:Int)/256%256).toNat::((x.d.length:Int)/65536%256).toNat::((x.d.length:Int)/16777216%256).toNat ::
  ((x.d.length:Int)%256).toNat::((x.d.length:Int)/256%256).toNat::((x.d.length:Int)/65536%256).toNat::((x.d.length:Int)/16777216%256).toNat ::
  ((x.nm.size:Int)%256).toNat::((x.nm.size:Int)/256%256).toNat::0::0::[]:=by
 simp only [stoB,le2_is,le4_is,List.cons_append,List.nil_append]
 rfl
theorem stoB_len (x:Sto):(stoB x).length=16:=by rw [stoB_is];rfl
theorem hdB_len (x:Sto):(hdB x).length=30+x.nm.size+x.d.length:=by simp [hdB,stoB_len,nmB_len];omega
theorem rwB_len (a:Nat) (x:Sto):(rwB a x).length=46+x.nm.size:=by simp [rwB,stoB_len,nmB_len,Cu.le_len];omega
theorem hdB_is (x:Sto) (z:List Nat):hdB x++z=[80,75,3,4,20,0,0,0,0,0,0,0,33,0]++(stoB x++(nmB x.nm++(x.d++z))):=by simp only [hdB,List.append_assoc]
theorem rwB_is (a:Nat) (x:Sto) (z:List Nat):rwB a x++z=[80,75,1,2,20,0,20,0,0,0,0,0,0,0,33,0]++(stoB x++([0,0,0,0,0,0,0,0,0,0]++(Cu.le a 4++(nmB x.nm++z)))):=by simp only [rwB,List.append_assoc]
def rwOf (a:Nat) (x:Sto):Rw:=⟨x.nm,0,0,0,33,x.d.length,x.d.length,a,0,x.sum,[]⟩
theorem row_nums (a:Nat) {x:Sto} (hf:Fits x) (ha:a<4294967296) (z:List Nat) :
  nu4 (rwB a x++z) 0=33639248∧nu2 (rwB a x++z) 8=0∧nu2 (rwB a x++z) 10=0∧nu2 (rwB a x++z) 12=0∧nu2 (rwB a x++z) 14=33∧nu4 (rwB a x++z) 16=x.sum∧nu4 (rwB a x++z) 20=x.d.length∧nu4 (rwB a x++z) 24=x.d.length∧
   nu2 (rwB a x++z) 28=x.nm.size∧nu2 (rwB a x++z) 30=0∧nu2 (rwB a x++z) 32=0∧nu2 (rwB a x++z) 34=0∧nu4 (rwB a x++z) 42=a∧(rwB a x++z).drop 46=nmB x.nm++z:=by
 have h1:=hf.nm
 have h2:=hf.d
 have h3:=hf.sum
 rw [rwB_is,stoB_is,le4_is]
 simp only [nu2,nu4,List.cons_append,List.nil_append,List.drop_succ_cons,List.drop_zero,List.take_succ_cons,List.take_zero,Cu.num]
 refine ⟨?_,?_,?_,?_,?_,?_,?_,?_,?_,?_,?_,?_,?_,?_⟩ <;> first | trivial | omega
theorem head_nums {x:Sto} (hf:Fits x) (z:List Nat) :
  nu4 (hdB x++z) 0=67324752∧nu2 (hdB x++z) 6=0∧nu2 (hdB x++z) 8=0∧nu4 (hdB x++z) 14=x.sum∧nu4 (hdB x++z) 18=x.d.length∧nu4 (hdB x++z) 22=x.d.length∧
   nu2 (hdB x++z) 26=x.nm.size∧nu2 (hdB x++z) 28=0∧(hdB x++z).drop 30=nmB x.nm++(x.d++z):=by
 have h1:=hf.nm
 have h2:=hf.d
 have h3:=hf.sum
 rw [hdB_is,stoB_is]
 simp only [nu2,nu4,List.cons_append,List.nil_append,List.drop_succ_cons,List.drop_zero,List.take_succ_cons,List.take_zero,Cu.num]
 refine ⟨?_,?_,?_,?_,?_,?_,?_,?_,?_⟩ <;> first | trivial | omega
theorem fBad0:fBad 0=false:=by decide +kernel
theorem fWide0:fWide 0=false:=by decide +kernel
theorem fBehind0:fBehind 0=false:=by decide +kernel
theorem row_at (pre:List Nat) (a:Nat) {x:Sto} (hf:Fits x) (ha:a<4294967295) (z:List Nat) (hn:nameF x.nm false=false) :
  rowE (pre++(rwB a x++z)) pre.length=0∧rowR (pre++(rwB a x++z)) pre.length=rwOf a x∧rowZ (pre++(rwB a x++z)) pre.length=pre.length+(rwB a x).length:=by
 obtain ⟨n0,n8,n10,n12,n14,n16,n20,n24,n28,n30,n32,n34,n42,n46⟩:=row_nums a hf (by omega) z
 have hd:=hf.d
 have hR:rowR (pre++(rwB a x++z)) pre.length=rwOf a x:=by
  unfold rowR
  rw [nu2_app,nu2_app,nu2_app,nu2_app,nu2_app,nu2_app,nu2_app,nu4_app,nu4_app,nu4_app,nu4_app,n8,n10,n12,n14,n16,n20,n24,n28,n30,n32,n42,win_app,n46,List.take_append_of_le_length (by rw [nmB_len];omega),List.take_of_length_le (by rw [nmB_len];omega),nmB_txt]
  rfl
 have hZ:rowZ (pre++(rwB a x++z)) pre.length=pre.length+(rwB a x).length:=by
  unfold rowZ
  rw [nu2_app,nu2_app,nu2_app,n28,n30,n32,rwB_len];omega
 refine ⟨?_,hR,hZ⟩
 unfold rowE
 have e0:=nu4_app pre (rwB a x++z) 0
 rw [Nat.add_zero] at e0
 rw [hZ,hR,e0,n0,nu2_app,n34,if_neg,if_neg,if_neg]
 ·simp only [rwOf]
  rw [fWide0,hn];simp
 ·simp only [rwOf,fBad0]
  rintro (h | h | h | h | h | ⟨h,_⟩)
  ·exact h rfl
  ·unfold big at h;omega
  ·unfold big at h;omega
  ·unfold big at h;omega
  ·cases h
  ·exact h rfl
 ·simp only [List.length_append,rwB_len]
  rintro (h | h | h)
  ·omega
  ·exact h rfl
  ·omega
def rws:Nat→List Sto→List Rw
 | _,[]=>[]
 | a,x::r=>rwOf a x::rws (a+(hdB x).length) r
theorem rws_len:∀ (l:List Sto) (a:Nat),(rws a l).length=l.length
 | [],_=>rfl
 | x::r,a=>by simp [rws,rws_len r]
structure Rights (acc:List (List UInt8)) (l:List Sto):Prop where
 fits:∀ x∈l,Fits x
 right:∀ x∈l,nameF x.nm false=false∧endsSlash x.nm=false
 unlike:∀ i (h:i<l.length),foldL l[i].nm∉acc∧∀ k (hk:k<i),foldL l[i].nm≠foldL l[k].nm
theorem Rights.tail {acc:List (List UInt8)} {x:Sto} {l:List Sto} (h:Rights acc (x::l)):Rights (acc++[foldL x.nm]) l:=by
 refine ⟨fun y hy=>h.fits y (List.mem_cons_of_mem _ hy),fun y hy=>h.right y (List.mem_cons_of_mem _ hy),fun i hi=>?_⟩
 have h1:=h.unlike (i+1) (by simpa using hi)
 refine ⟨fun hm=>?_,fun k hk=>h1.2 (k+1) (by omega)⟩
 rcases List.mem_append.1 hm with hm | hm
 ·exact h1.1 hm
 ·exact h1.2 0 (by omega) (List.mem_singleton.1 hm)
theorem rowsP_sto:∀ (l:List Sto) (a:Nat) (pre:List Nat) (acc:List Rw),Rights (acc.map fun r=>foldL r.name) l→a+(HH l).length<4294967295→
  rowsP (pre++RR a l) l.length pre.length acc = .ok (acc++rws a l)
 | [],a,pre,acc,_,_=>by simp [RR,rowsP,rws]
 | x::l,a,pre,acc,h,hl=>by
  have hlen:(HH (x::l)).length=(hdB x).length+(HH l).length:=by simp [HH]
  obtain ⟨h1,h2,h3⟩:=row_at pre a (h.fits x (List.mem_cons_self)) (by omega) (RR (a+(hdB x).length) l) (h.right x (List.mem_cons_self)).1
  rw [RR,List.length_cons,rowsP,h1,h2,h3,if_neg (by decide)]
  have he2:rowE2 (acc.map fun r=>foldL r.name) (rwOf a x)=0:=by
   unfold rowE2
   rw [if_neg (show ¬foldL (rwOf a x).name∈_ from (h.unlike 0 (by simp)).1),if_neg]
   rintro (⟨_,hh⟩ | ⟨hh,_⟩)
   ·exact hh rfl
   ·simp only [rwOf] at hh;rw [(h.right x (List.mem_cons_self)).2] at hh;cases hh
  rw [he2,if_neg (by decide)]
  have:=rowsP_sto l (a+(hdB x).length) (pre++rwB a x) (acc++[rwOf a x]) (by have:=h.tail;simpa [rwOf] using this) (by omega)
  rw [List.append_assoc,List.length_append] at this
  rw [this,rws,List.append_assoc]
  rfl
theorem spot_at (pre:List Nat) {x:Sto} (hf:Fits x) (z:List Nat) :
  spotE (pre++(hdB x++z)) (rwOf pre.length x)=0∧spotS (pre++(hdB x++z)) (rwOf pre.length x)=⟨pre.length,pre.length+30+x.nm.size,pre.length+(hdB x).length,0⟩∧cutP (pre++(hdB x++z)) (rwOf pre.length x)=x.d:=by
 obtain ⟨n0,n6,n8,n14,n18,n22,n26,n28,n30⟩:=head_nums hf z
 have e0:=nu4_app pre (hdB x++z) 0
 rw [Nat.add_zero] at e0
 have hD:spData (pre++(hdB x++z)) (rwOf pre.length x)=pre.length+30+x.nm.size:=by
  unfold spData
  simp only [rwOf]
  rw [nu2_app,nu2_app,n26,n28];omega
 have hlen:(pre++(hdB x++z)).length=pre.length+30+x.nm.size+x.d.length+z.length:=by simp [hdB_len];omega
 have hB:fBehind (rwOf pre.length x).flags=false:=fBehind0
 refine ⟨?_,?_,?_⟩
 ·unfold spotE
  rw [hD,hB,if_neg,if_neg,if_neg]
  ·rintro ⟨h,_⟩;cases h
  ·simp only [rwOf];omega
  ·simp only [rwOf]
   rw [e0,n0,nu2_app,nu2_app,nu2_app,n6,n8,n26,win_app,n30,List.take_append_of_le_length (by rw [nmB_len];omega),List.take_of_length_le (by rw [nmB_len];omega),nmB_txt]
   have hs:sumsAt (pre++(hdB x++z)) (pre.length+14) ⟨x.nm,0,0,0,33,x.d.length,x.d.length,pre.length,0,x.sum,[]⟩=true:=by
    unfold sumsAt
    rw [decide_eq_true_iff,Nat.add_assoc,Nat.add_assoc,Nat.add_assoc,nu4_app,nu4_app,nu4_app,n14,n18,n22]
    exact ⟨by omega,rfl,rfl,rfl⟩
   rw [hs]
   rintro (h | h | h | h | h | h | h | h | h) <;> first | omega | exact h rfl | (cases h.1)
 ·unfold spotS
  rw [hD,hB,if_neg (by decide)]
  simp only [rwOf]
  rw [nu2_app,n28,hdB_len]
  congr 1;omega
 ·unfold cutP
  rw [hD]
  simp only [rwOf]
  have e30:(hdB x++z).drop (30+x.nm.size)=x.d++z:=by
   rw [←List.drop_drop,n30,←nmB_len,List.drop_left]
  rw [Nat.add_assoc,win_app,e30,List.take_left]
def sps:Nat→List Sto→List Sp
 | _,[]=>[]
 | a,x::r=>⟨a,a+30+x.nm.size,a+(hdB x).length,0⟩::sps (a+(hdB x).length) r
theorem spots_sto:∀ (l:List Sto) (pre:List Nat),(∀ x∈l,Fits x)→spotsE (pre++HH l) (rws pre.length l)=0∧(rws pre.length l).map (spotS (pre++HH l))=sps pre.length l∧(rws pre.length l).map (cutP (pre++HH l))=l.map (·.d)
 | [],pre,_=>⟨rfl,rfl,rfl⟩
 | x::l,pre,h=>by
  obtain ⟨h1,h2,h3⟩:=spot_at pre (h x (List.mem_cons_self)) (HH l)
  have hH:HH (x::l)=hdB x++HH l:=rfl
  obtain ⟨i1,i2,i3⟩:=spots_sto l (pre++hdB x) fun y hy=>h y (List.mem_cons_of_mem _ hy)
  rw [List.append_assoc,List.length_append] at i1 i2 i3
  rw [hH,rws,sps,spotsE,h1,if_neg (by decide),List.map_cons,List.map_cons,h2,h3,i1,i2,i3]
  exact ⟨rfl,rfl,rfl⟩
theorem sps_ge:∀ (l:List Sto) (a:Nat),∀ s∈sps a l,a≤s.head
 | [],_,s,h=>by cases h
 | x::l,a,s,h=>by
  rcases List.mem_cons.1 h with rfl | h
  ·exact Nat.le_refl _
  ·exact Nat.le_trans (Nat.le_add_right _ _) (sps_ge l _ s h)
theorem clash_sto:∀ (l:List Sto) (a:Nat),clashP (sps a l)=false
 | [],_=>rfl
 | x::l,a=>by
  rw [sps,clashP,clash_sto l,Bool.or_false,List.any_eq_false]
  intro s hs
  have:=sps_ge l _ s hs
  unfold over
  simp only [decide_eq_true_eq]
  omega
theorem ents_sto (ys:List Nat):∀ (l:List Sto) (a L:Nat),(rws a l).map (cutP ys)=l.map (·.d)→(∀ x∈l,(CrcPlain.updN 0#32 x.d).toNat=x.sum)→totD (l.map (·.d))≤L→entsP ys (rws a l) L = .ok (l.map (·.d))
 | [],_,_,_,_,_=>rfl
 | x::l,a,L,h,hs,hL=>by
  rw [rws,List.map_cons,List.map_cons] at h
  obtain ⟨hc,hr⟩:=List.cons.inj h
  have ht:totD ((x::l).map (·.d))=x.d.length+totD (l.map (·.d)):=by simp [totD]
  have hd:dataP ys (rwOf a x) L = .ok x.d:=by
   unfold dataP
   rw [if_pos (show (rwOf _ x).method=0 from rfl),hc,if_neg (by omega)]
  have he:dataE x.d (rwOf a x)=0:=by
   unfold dataE
   rw [if_neg (by simp [rwOf]),if_neg (fun hc=>hc (hs x (List.mem_cons_self)))]
  rw [rws,entsP,hd]
  simp only
  rw [he,if_neg (by decide),ents_sto ys l _ (L-x.d.length) hr (fun y hy=>hs y (List.mem_cons_of_mem _ hy)) (by omega)]
  rfl
theorem HH_bs {l:List Sto} (h:∀ x∈l,Fits x):Bs (HH l):=by
 intro v hv
 obtain ⟨x,hx,hv⟩:=List.mem_flatMap.1 hv
 have h1:Bs ([80,75,3,4,20,0,0,0,0,0,0,0,33,0]:List Nat):=by intro y hy;simp at hy;omega
 have hl:=fun n k=>show Bs (Cu.le n k) from Cu.le_bs n k
 have happ:∀ {a b:List Nat},Bs a→Bs b→Bs (a++b):=fun ha hb=>Cu.Bs.app ha hb
 exact happ (happ (happ h1 (happ (happ (happ (happ (hl _ _) (hl _ _)) (hl _ _)) (hl _ _)) (hl _ _))) (nmB_bs _)) (h x hx).bs v hv
theorem RR_bs:∀ (l:List Sto) (a:Nat),Bs (RR a l)
 | [],_=>fun x h=>by cases h
 | x::l,a=>by
  have h1:Bs ([80,75,1,2,20,0,20,0,0,0,0,0,0,0,33,0]:List Nat):=by intro y hy;simp at hy;omega
  have h2:Bs ([0,0,0,0,0,0,0,0,0,0]:List Nat):=by intro y hy;simp at hy;omega
  have hl:=fun n k=>show Bs (Cu.le n k) from Cu.le_bs n k
  have happ:∀ {a b:List Nat},Bs a→Bs b→Bs (a++b):=fun ha hb=>Cu.Bs.app ha hb
  rw [RR]
  exact happ (happ (happ (happ (happ h1 (happ (happ (happ (happ (hl _ _) (hl _ _)) (hl _ _)) (hl _ _)) (hl _ _))) h2) (hl _ _)) (nmB_bs _)) (RR_bs l _)
structure Small (l:List Sto):Prop where
 fits:∀ x∈l,Fits x
 few:l.length<80
 heads:(HH l).length<65536
 rows:(RR 0 l).length<65536
theorem Small.bs {l:List Sto} (h:Small l):Bs (HH l++RR 0 l):=fun x hx=>(List.mem_append.1 hx).elim (HH_bs h.fits x) (RR_bs l 0 x)
theorem stoP_len (l:List Sto):(stoP l).length=(HH l).length+(RR 0 l).length+22:=by simp [stoP,stoE_len];omega
theorem stoP_bs {l:List Sto} (h:Small l):Bs (stoP l):=fun x hx=>(List.mem_append.1 hx).elim (h.bs x) (stoE_bs _ _ _ (fun y hy=>by cases hy) x)
theorem openP_stoP {l:List Sto} (h:Small l) (hr:Rights [] l) {B E:Int} (hB:((stoP l).length:Int)≤max B 0) (hE:(l.length:Int)≤max E 0) :
  openP (stoP l) B E = .ok (rws 0 l,(HH l).length,(HH l).length+(RR 0 l).length):=by
 unfold stoP at hB ⊢
 rw [openP_sto h.bs (fun x h=>by cases h) h.few h.rows h.heads (by simp) (fun x h=>by cases h) hB,if_neg (by simp),if_neg (by omega),rowsP_sto l 0 (HH l) [] hr (by have:=h.heads;omega)]
 simp
theorem readP_stoP {l:List Sto} (h:Small l) (hr:Rights [] l) (hs:∀ x∈l,(CrcPlain.updN 0#32 x.d).toNat=x.sum) {B E T:Int} (hB:((stoP l).length:Int)≤max B 0) (hE:(l.length:Int)≤max E 0) (hT:totD (l.map (·.d))≤T.toNat) :
  readP (stoP l) B E T = .ok (rws 0 l,(HH l).length,l.map (·.d)):=by
 have ht:(stoP l).take (HH l).length=HH l:=by unfold stoP;rw [List.append_assoc,List.take_left]
 obtain ⟨s1,s2,s3⟩:=spots_sto l [] h.fits
 simp only [List.nil_append,List.length_nil] at s1 s2 s3
 unfold readP
 rw [openP_stoP h hr hB hE]
 simp only
 rw [ht,s1,s2,clash_sto,if_neg (by decide),if_neg (by decide),ents_sto _ l 0 _ s3 hs hT]
theorem readP_ahead {l:List Sto} (h:Small l) {p:List Nat} (hp:Bs p) (hne:p≠[]) {B E T:Int} (hB:((p++stoP l).length:Int)≤max B 0):readP (p++stoP l) B E T = .error 10:=by
 have hpl:0<p.length:=List.length_pos_iff.2 hne
 unfold stoP at hB ⊢
 rw [←List.append_assoc] at hB ⊢
 unfold readP
 rw [openP_sto (fun x hx=>(List.mem_append.1 hx).elim (hp x) (h.bs x)) (fun x h=>by cases h) h.few h.rows h.heads (by simp) (fun x h=>by cases h) hB,if_pos (by simp;omega)]
section
open Go.ChangeShapes Go.WideShapes Go.ChangeAt Go.RowKit
theorem by_sl {w:World} {a:Option Addr} {c:Nat} {xs:List Nat} (h:BySl w (.slice a xs.length c) xs) (hl:xs.length≤c) (hm:c≤maxLen) (hb:Bs xs):Cu.Sl w a c xs:=by
 rcases h with ⟨h0,rfl⟩ | ⟨ad,c',h1,h2,h3⟩
 ·injection h0 with e1 _ e3
  subst e1 e3
  exact Cu.Sl.none_ w
 ·injection h1 with e1 _ e3
  subst e1 e3
  refine ⟨?_,hl,hm,(fun h=>by cases h),hb⟩
  by_cases hx:xs=[]
  ·exact .inl hx
  ·have hl0:0<xs.length:=List.length_pos_iff.2 hx
   obtain ⟨b,off,spot⟩:=ad
   have hc:=h3 0 (.int .u8 (xs[0]:Nat)) (by simp [u8s,hl0])
   have hspot:spot=none:=by simpa [Addr.add] using World.cell?_spot hc
   subst hspot
   refine .inr ⟨b,off,rfl,fun j hj=>?_⟩
   have:=h3 j (.int .u8 (xs[j]:Nat)) (by simp [u8s,hj])
   rw [Addr.add_lit] at this
   rw [this];simp [List.getD,hj]
def Txs (w:World) (a:Option Addr) (len:Nat) (nm:Nat→ByteArray):Prop:=
 len=0∨∃ b off,a=some ⟨b,off,none⟩∧∀ i,i<len→w.cell? ⟨b,off+i,none⟩=some (.string (nm i))
theorem Txs.below {w w':World} {a:Option Addr} {len:Nat} {nm:Nat→ByteArray} (h:Txs w a len nm) (hb:Below w.heap.size w w'):Txs w' a len nm:=by
 rcases h with h | ⟨b,off,rfl,hc⟩
 ·exact .inl h
 ·exact .inr ⟨b,off,rfl,fun i hi=>(hb.cell (World.block_lt_of_cell? w _ (hc i hi))).trans (hc i hi)⟩
structure El (w:World) (p:Addr) (ao:Option Addr) (c:Nat) (xs:List Nat):Prop where
 cell:w.cell? p=some (.slice ao xs.length c)
 sl:Cu.Sl w ao c xs
theorem El.below {w w':World} {p:Addr} {ao:Option Addr} {c:Nat} {xs:List Nat} (h:El w p ao c xs) (hb:Below w.heap.size w w'):El w' p ao c xs:=
 ⟨(hb.cell (World.block_lt_of_cell? w _ h.cell)).trans h.cell,h.sl.below hb⟩
def Lsb (w:World) (a:Option Addr) (len:Nat) (f:Nat→List Nat) (A:Nat→Option Addr) (C:Nat→Nat):Prop:=
 len=0∨∃ b off,a=some ⟨b,off,none⟩∧∀ i,i<len→El w ⟨b,off+i,none⟩ (A i) (C i) (f i)
theorem Lsb.below {w w':World} {a:Option Addr} {len:Nat} {f:Nat→List Nat} {A:Nat→Option Addr} {C:Nat→Nat} (h:Lsb w a len f A C) (hb:Below w.heap.size w w'):Lsb w' a len f A C:=by
 rcases h with h | ⟨b,off,rfl,hc⟩
 ·exact .inl h
 ·exact .inr ⟨b,off,rfl,fun i hi=>(hc i hi).below hb⟩
theorem el_open {H:Type} {enc:TypeId × Value→H} {w:World} {base:Nat} {spare:Nat→Bool} {held:Bool} {fuel:Nat} {sv:Value} {y:DataW H × List MemPlace}
  (h:DataW.trod enc Tryz.prog w base spare held fuel 22 [sv]=some y):∃ ao c xs,sv = .slice ao (List.length xs) c∧Cu.Sl w ao c xs:=by
 rcases open_ints Tryz.underlying22 Tryz.underlying5 (by kernel_rfl) h with ⟨hcs,_⟩ | ⟨ad,l,c,zs,hcs,_,hl,hm,hz,_,hcell,hwf⟩
 ·simp only [List.cons.injEq,and_true] at hcs
  exact ⟨none,0,[],hcs,Cu.Sl.none_ w⟩
 ·simp only [List.cons.injEq,and_true] at hcs
  subst hcs
  obtain ⟨xs,rfl,hb,hs,h1,h2⟩:=by_open h
  exact ⟨some ad,c,xs,rfl,by_sl hs h1 h2 hb⟩
theorem lsb_open {H:Type} {enc:TypeId × Value→H} {w:World} {base:Nat} {spare:Nat→Bool} {held:Bool} {fuel:Nat} {a:Option Addr} {len cap:Nat} {y:DataW H × List MemPlace}
  (h:DataW.trod enc Tryz.prog w base spare held fuel 34 [.slice a len cap]=some y):∃ f A C,Lsb w a len f A C∧len≤maxLen:=by
 rcases Go.Deep.open_slice Tryz.underlying34 h with ⟨h0,_⟩ | ⟨ad,l,c,m,n,D,Pl,hcs,_,hl,hm,hmm,_,hi⟩
 ·simp at h0
  exact ⟨fun _=>[],fun _=>none,fun _=>0,.inl h0.2.1,by omega⟩
 ·simp at hcs
  obtain ⟨rfl,rfl,rfl⟩:=hcs
  have hlm:len≤m:=by rw [hmm];split <;> omega
  have hE:∀ i,i<len→∃ sv,w.cell? (ad.add i)=some sv∧∃ ao c xs,sv = .slice ao (List.length xs) c∧Cu.Sl w ao c xs:=by
   intro i hil
   obtain ⟨cs',hc,ht⟩:=hi i (by omega)
   rw [show Tryz.prog.cellsOf 22=1 by kernel_rfl,Nat.mul_one] at hc
   obtain ⟨_,hlen,hat⟩:=World.cells?_some hc
   match cs',hlen with
   | [sv],_=>
    have h0:=hat 0 (by omega)
    rw [show (ad.add i).add 0=ad.add i by simp [Addr.add]] at h0
    exact ⟨sv,h0,el_open ht⟩
  by_cases h0:len=0
  ·exact ⟨fun _=>[],fun _=>none,fun _=>0,.inl h0,by omega⟩
  ·obtain ⟨sv,hc0,_⟩:=hE 0 (by omega)
   obtain ⟨b,off,spot⟩:=ad
   have hspot:spot=none:=by simpa [Addr.add] using World.cell?_spot hc0
   subst hspot
   have hX:∀ i,∃ t:List Nat × Option Addr × Nat,i<len→El w ⟨b,off+i,none⟩ t.2.1 t.2.2 t.1:=by
    intro i
    by_cases hil:i<len
    ·obtain ⟨sv,hc,ao,c,xs,rfl,h1⟩:=hE i hil
     rw [Addr.add_lit] at hc
     exact ⟨(xs,ao,c),fun _=>⟨hc,h1⟩⟩
    ·exact ⟨([],none,0),fun h=>absurd h hil⟩
   exact ⟨fun i=>(Classical.choose (hX i)).1,fun i=>(Classical.choose (hX i)).2.1,fun i=>(Classical.choose (hX i)).2.2,.inr ⟨b,off,rfl,fun i hil=>Classical.choose_spec (hX i) hil⟩,by omega⟩
theorem fs_lit {w:World} {g t:Nat} {l:List Cu.Fe} (h:Blk w g t (Cu.fcells l).toArray) (hs:∀ x∈l,x.ao=none∧x.c=0∧x.f.b=[]):Cu.Fs w (some ⟨g,0,none⟩) l:=by
 refine ⟨fun x hx=>?_,.inr ⟨g,rfl,fun j u hu=>?_⟩⟩
 ·obtain ⟨h1,h2,h3⟩:=hs x hx
  rw [h1,h2,h3];exact Cu.Sl.none_ w
 ·rw [h.cell];simpa using hu
theorem wrt_stoB (sum len nm:Nat):Cu.wrt [⟨1,sum,[]⟩,⟨1,len,[]⟩,⟨1,len,[]⟩,⟨0,nm,[]⟩,⟨0,0,[]⟩]=Cu.le sum 4++Cu.le len 4++Cu.le len 4++Cu.le nm 2++Cu.le 0 2:=by
 simp [Cu.wrt,Cu.wf]
end
theorem rowsP_mem {ys:List Nat} {P:Rw→Prop} (hP:∀ p,P (rowR ys p)):∀ {n p:Nat} {acc l:List Rw},rowsP ys n p acc = .ok l→(∀ r∈acc,P r)→∀ r∈l,P r:=by
 intro n
 induction n with
 | zero=>
  intro p acc l h ha
  rw [rowsP] at h
  split at h
  ·cases h;exact ha
  ·cases h
 | succ k ih=>
  intro p acc l h ha
  rw [rowsP] at h
  split at h
  ·cases h
  ·split at h
   ·cases h
   ·refine ih h fun r hr=>?_
    rcases List.mem_append.1 hr with hr | hr
    ·exact ha r hr
    ·rw [List.mem_singleton.1 hr];exact hP p
theorem endB_lt {xs:List Nat}:∀ {n e:Nat},endB xs n=some e→e<n
 | 0,e,h=>by cases h
 | n+1,e,h=>by
  rw [endB] at h
  split at h
  ·cases h;omega
  ·have:=endB_lt h;omega
theorem rowFit {ys:List Nat} (hb:Bs ys) (p:Nat):Rfit (rowR ys p):=by
 refine ⟨nu4_lt hb _,nu4_lt hb _,nu4_lt hb _,nu4_lt hb _,?_,nu2_lt hb _⟩
 have:=nu2_lt hb (p+28)
 show (txt _).size≤65535
 rw [txt_size,List.length_take];omega
theorem openP_fit {xs:List Nat} {B E:Int} {l:List Rw} {f e:Nat} (hb:Bs xs) (h:openP xs B E = .ok (l,f,e)) :
  (∀ r∈l,Rfit r∧r.extra<65536)∧l.length≤65535∧f≤xs.length∧f≤e∧e≤xs.length:=by
 obtain ⟨h1,h2,h3,h4,h5⟩:=openP_is h
 have he:e<xs.length-21:=endB_lt h2
 have hf:f≤e:=by
  unfold endE at h3
  split at h3
  ·cases h3
  ·split at h3
   ·cases h3
   ·rename_i hn;omega
 have hl:=rowsP_len h4
 have h2':=nu2_lt hb (e+10)
 have hbt:Bs (xs.take e):=fun x hx=>hb x (List.mem_of_mem_take hx)
 refine ⟨rowsP_mem (P:=fun r=>Rfit r∧r.extra<65536) (fun p=>⟨rowFit hbt p,nu2_lt hbt _⟩) h4 (fun r hr=>by cases hr),by simp at hl;omega,by omega,hf,by omega⟩
theorem spotsE_mem {ys:List Nat}:∀ {l:List Rw},spotsE ys l=0→∀ r∈l,spotE ys r=0
 | [],_,r,hr=>by cases hr
 | x::t,h,r,hr=>by
  rw [spotsE] at h
  split at h
  ·rename_i hx;exact absurd h hx
  ·rename_i hx
   rcases List.mem_cons.1 hr with rfl | hr
   ·exact Classical.not_not.1 hx
   ·exact spotsE_mem h r hr
theorem readP_open {xs:List Nat} {B E T:Int} {l:List Rw} {f e:Nat} (h:openP xs B E = .ok (l,f,e)) :
  readP xs B E T=if spotsE (xs.take f) l≠0 then .error (spotsE (xs.take f) l) else if clashP (l.map (spotS (xs.take f)))=true then .error 18 else
   match entsP (xs.take f) l T.toNat with
   | .error e => .error e
   | .ok d => .ok (l,f,d):=by
 unfold readP;rw [h];rfl
end Go.Proofs.YthbbpooobaahiaaGreatDoor.Zz
