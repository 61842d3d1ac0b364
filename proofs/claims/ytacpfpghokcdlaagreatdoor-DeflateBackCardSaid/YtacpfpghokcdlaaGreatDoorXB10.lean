/- Part 10. -/
import Derived.Test.YtacpfpghokcdlaaGreatDoorXB9
open Go.Proofs.Tryz
namespace Go.Proofs.YtacpfpghokcdlaaGreatDoor.Y
set_option maxRecDepth 100000
def lev (cs:List Nat):Nat→Nat→List Nat
 | 0,k=>[qm (row cs 0) k]
 | d+1,k=>qm (row cs (d+1)) k::lev cs d (2*(k-qm (row cs (d+1)) k))
theorem vI (cs:List Nat) (d k:Nat):(lev cs d k).length=d+1:=by
 induction d generalizing k with
 | zero=>rfl
 | succ d ih=>rw [lev,List.length_cons,ih]
theorem zcJ {cs ds:List Nat}(i k:Nat) (h:i<qm (mrg cs ds) k):∃ q,q<k∧q<(mrg cs ds).length∧(cost (mrg cs ds)).getD q 0=cs.getD i 0:=by
 induction cs,ds using mrg.induct generalizing i k with
 | case1 ds=>rw [mrg,Kc] at h;omega
 | case2 c cs ih=>
  have h1:=zch (mrg (c::cs) []) k;have h2:qm (mrg (c::cs) []) k≤(c::cs).length:=by
   rw [xc];unfold qm;exact Nat.le_trans List.countP_le_length (by simp;omega)
  refine ⟨i,by omega,by rw [xc];simp at h2 ⊢;omega,?_⟩;rw [xc,kW]
 | case3 c cs d ds hlt ih=>
  cases k with
  | zero=>rw [js] at h;omega
  | succ k=>
   rw [kr _ _ hlt,xM] at h;obtain ⟨q,h1,h2,h3⟩:=ih i k (by simpa using h);refine ⟨q+1,by omega,by rw [kr _ _ hlt];simp;omega,?_⟩;rw [kr _ _ hlt,cost,List.map_cons,List.getD_cons_succ];exact h3
 | case4 c cs d ds hlt ih=>
  cases k with
  | zero=>rw [js] at h;omega
  | succ k=>
   rw [jg _ _ hlt,xM] at h;cases i with
   | zero=>exact ⟨0,by omega,by rw [jg _ _ hlt];simp,by rw [jg _ _ hlt];simp [cost]⟩
   | succ i=>
    obtain ⟨q,h1,h2,h3⟩:=ih i k (by simp at h;omega);refine ⟨q+1,by omega,by rw [jg _ _ hlt];simp;omega,?_⟩;rw [jg _ _ hlt,cost,List.map_cons,List.getD_cons_succ,List.getD_cons_succ];exact h3
theorem zlv {cs:List Nat}(d i k:Nat) (h:i<qm (row cs d) k):∃ q,q<k∧q<(row cs d).length∧(cost (row cs d)).getD q 0=cs.getD i 0:=by
 cases d with
 | zero=>
  rw [row,←xc] at h;have:=zcJ i k h;rwa [xc] at this
 | succ d=>exact zcJ i k h
theorem xL {cs:List Nat}(hc:Up cs) (d k:Nat) (hk:k≤(row cs (d+1)).length):∃ m,zjY cs (qI (cost (row cs d))) k m∧qm (row cs (d+1)) k=m∧2*(k-m)≤(row cs d).length:=by
 obtain ⟨m,S⟩:=split (ds:=qI (cost (row cs d))) hc k (by rwa [row,x8] at hk);have:=S.md;rw [kX,jE] at this;exact ⟨m,S,S.cnt,by omega⟩
theorem ke {cs:List Nat}(hc:Up cs) (d k:Nat) (hk:k≤(row cs d).length):qm (row cs d) k≤cs.length:=by
 cases d with
 | zero=>rw [xA] at hk;rw [row,kR _ _ hk];exact hk
 | succ d=>
  obtain ⟨m,S,h1,h2⟩:=xL hc d k hk;rw [h1];exact S.mc
theorem zbp {cs:List Nat}(hc:Up cs) (d k:Nat) (hk:k≤(row cs d).length):∀ m∈lev cs d k,m≤qm (row cs d) k:=by
 induction d generalizing k with
 | zero=>intro m hm;simp [lev] at hm;omega
 | succ d ih=>
  intro m hm;obtain ⟨q,S,h1,h2⟩:=xL hc d k hk;rw [lev,List.mem_cons] at hm;rcases hm with rfl | hm
  ·exact Nat.le_refl _
  ·have h3:=ih (2*(k-qm (row cs (d+1)) k)) (by rw [h1];exact h2) m hm
   refine Nat.le_trans h3 ?_;rw [h1];rcases Nat.lt_or_ge q (qm (row cs d) (2*(k-q))) with hlt | hge
   ·exfalso
    obtain ⟨p,p1,p2,p3⟩:=zlv d q _ hlt;have hq:q<cs.length:=Nat.lt_of_lt_of_le hlt (ke hc d _ h2);have h4:=S.lo q (p/2) (Nat.le_refl _) hq (by omega);rw [Jq _ _ (by rw [jE];omega)] at h4;have h5:(cost (row cs d)).getD p 0≤(cost (row cs d)).getD (2*(p/2)) 0+(cost (row cs d)).getD (2*(p/2)+1) 0:=by
     rcases Nat.mod_two_eq_zero_or_one p with e | e
     ·rw [show 2*(p/2)=p by omega];omega
     ·rw [show 2*(p/2)+1=p by omega];omega
    omega
   ·exact hge
theorem zev {cs:List Nat}(hc:Up cs) (d k:Nat) (hk:k≤(row cs d).length):(lev cs d k).Pairwise (· ≥ ·):=by
 induction d generalizing k with
 | zero=>simp [lev]
 | succ d ih=>
  obtain ⟨q,S,h1,h2⟩:=xL hc d k hk;rw [lev];refine List.pairwise_cons.2 ⟨fun m hm=>zbp hc (d+1) k hk m (by rw [lev];exact List.mem_cons_of_mem _ hm),ih _ (by rw [h1];exact h2)⟩
def wt:List Nat→Nat
 | []=>0
 | m::t=>m*2^t.length+wt t
theorem zeS {cs:List Nat}(hc:Up cs) (d k:Nat) (hk:k≤(row cs d).length):wt (lev cs d k)=k*2^d:=by
 induction d generalizing k with
 | zero=>rw [xA] at hk;rw [lev,row,kR _ _ hk];simp [wt]
 | succ d ih=>
  obtain ⟨q,S,h1,h2⟩:=xL hc d k hk;rw [lev,wt,vI,ih _ (by rw [h1];exact h2),h1,Nat.pow_succ];have h3:=S.mle;have:q*(2^d*2)+2*(k-q)*2^d=(q+(k-q))*(2^d*2):=by
   rw [Nat.add_mul,Nat.mul_comm 2 (k-q),Nat.mul_assoc,Nat.mul_comm 2]
  rw [this,show q+(k-q)=k by omega]
def zL (n:Nat) (f:Nat→Nat):Nat:=((List.range n).map f).sum
theorem xj (f:Nat→Nat):zL 0 f=0:=rfl
theorem zv (n:Nat) (f:Nat→Nat):zL (n+1) f=zL n f+f n:=by simp [zL,List.range_succ]
theorem zA {n:Nat}{f g:Nat→Nat}(h:∀ i,i<n→f i=g i):zL n f=zL n g:=by
 unfold zL;congr 1
 apply List.map_congr_left;intro i hi;exact h i (List.mem_range.1 hi)
theorem jB (n:Nat) (f g:Nat→Nat):zL n (fun i=>f i+g i)=zL n f+zL n g:=by
 induction n with
 | zero=>rfl
 | succ n ih=>rw [zv,zv,zv,ih];omega
theorem qN (n c:Nat):zL n (fun _=>c)=n*c:=by
 induction n with
 | zero=>simp [xj]
 | succ n ih=>rw [zv,ih,Nat.add_mul];omega
theorem zfq (n c:Nat) (f:Nat→Nat):zL n (fun i=>f i*c)=zL n f*c:=by
 induction n with
 | zero=>simp [xj]
 | succ n ih=>rw [zv,zv,ih,Nat.add_mul]
theorem vO (n m:Nat) (f:Nat→Nat) (h:m≤n):zL n (fun i=>if i<m then f i else 0)=zL m f:=by
 induction n with
 | zero=>
      have:m=0:=by omega
      subst this;rfl
 | succ n ih=>
  by_cases e:m=n+1
  ·subst e
   exact zA fun i hi=>by simp [hi]
  ·rw [zv,ih (by omega)]
   rw [if_neg (by omega)];omega
theorem zfP (cs:List Nat) (m:Nat) (h:m≤cs.length):zL m (fun i=>cs.getD i 0)=pre cs m:=by
 induction m with
 | zero=>simp [xj,pre]
 | succ m ih=>rw [zv,ih (by omega),zff _ _ (by omega)]
def la (l:List Nat) (i:Nat):Nat:=l.countP fun m=>decide (i<m)
theorem vt (m:Nat) (t:List Nat) (i:Nat):la (m::t) i=(if i<m then 1 else 0)+la t i:=by
 simp only [la,List.countP_cons,decide_eq_true_eq];omega
theorem la_le (l:List Nat) (i:Nat):la l i≤l.length:=List.countP_le_length
def wi:List Nat→Nat→Nat
 | [],_=>0
 | m::t,i=>(if i<m then 2^t.length else 0)+wi t i
theorem zk5 (l:List Nat) (n:Nat) (h:∀ m∈l,m≤n):zL n (wi l)=wt l:=by
 induction l with
 | nil=>simp [wt,show wi []=fun _=>0 from rfl,qN]
 | cons m t ih=>
  rw [wt,show wi (m::t)=fun i=>(if i<m then 2^t.length else 0)+wi t i from rfl,jB,ih fun x hx=>h x (List.mem_cons_of_mem _ hx),vO n m (fun _=>2^t.length) (h m List.mem_cons_self),qN]
theorem zlN {l:List Nat}(h:l.Pairwise (· ≥ ·)) (i:Nat):wi l i+2^(l.length-la l i)=2^l.length:=by
 induction l with
 | nil=>simp [wi,la]
 | cons m t ih=>
  obtain ⟨h1,h2⟩:=List.pairwise_cons.1 h;rw [wi,vt,List.length_cons];by_cases hi:i<m
  ·rw [if_pos hi,if_pos hi,show t.length+1-(1+la t i)=t.length-la t i by omega,Nat.pow_succ]
   have:=ih h2;omega
  ·have h0:la t i=0:=by
    unfold la;rw [List.countP_eq_zero];intro x hx;have:=h1 x hx;simp;omega
   have hw:∀ u:List Nat,(∀ x∈u,x≤m)→wi u i=0:=by
    intro u hu;induction u with
    | nil=>rfl
    | cons a u ihu=>
     rw [wi,ihu fun x hx=>hu x (List.mem_cons_of_mem _ hx)];have:=hu a List.mem_cons_self;rw [if_neg (by omega)]
   rw [if_neg hi,if_neg hi,h0,hw t h1];simp
def XL (cs:List Nat) (l:List Nat):Nat:=(l.map (pre cs)).sum
theorem zhg {cs:List Nat}(hc:Up cs) (d k:Nat) (hk:k≤(row cs d).length):XL cs (lev cs d k)=pre (cost (row cs d)) k:=by
 induction d generalizing k with
 | zero=>rw [xA] at hk;rw [lev,row,kR _ _ hk,kW];simp [XL]
 | succ d ih=>
  obtain ⟨q,S,h1,h2⟩:=xL hc d k hk;have:=ih (2*(k-q)) h2;rw [lev,h1,XL,List.map_cons,List.sum_cons,←XL,this,row,S.sum,Qf _ _ (by rw [jE];exact h2)]
theorem zh9 (cs l:List Nat) (h:∀ m∈l,m≤cs.length):zL cs.length (fun i=>cs.getD i 0*la l i)=XL cs l:=by
 induction l with
 | nil=>simp [XL,la,qN]
 | cons m t ih=>
  have h1:=ih fun x hx=>h x (List.mem_cons_of_mem _ hx)
  have h2:=h m List.mem_cons_self;rw [XL,List.map_cons,List.sum_cons,←XL,←h1,←zfP cs m h2,←vO cs.length m (fun i=>cs.getD i 0) h2,←jB];refine zA fun i _=>?_
  rw [vt,Nat.mul_add];split <;> simp
def top (cs:List Nat) (d:Nat):List Nat:=lev cs d (2*cs.length-2)
def best (cs:List Nat) (d:Nat):Nat:=pre (cost (row cs d)) (2*cs.length-2)
structure Fit (cs:List Nat) (d:Nat):Prop where
 up:Up cs
 two:2≤cs.length
 few:cs.length≤2^(d+1)
theorem Fit.enough {cs:List Nat}{d:Nat}(F:Fit cs d):2*cs.length-2≤(row cs d).length:=zbE cs d F.few
theorem zmg (l:List Nat) (m:Nat) (h:∀ x∈l,x≤m):wt l+m≤m*2^l.length:=by
 induction l with
 | nil=>simp [wt]
 | cons a t ih=>
  have h1:=ih fun x hx=>h x (List.mem_cons_of_mem _ hx)
  have h2:a*2^t.length≤m*2^t.length:=Nat.mul_le_mul_right _ (h a List.mem_cons_self);rw [wt,List.length_cons,Nat.pow_succ,←Nat.mul_assoc];omega
theorem Fit.all {cs:List Nat}{d:Nat}(F:Fit cs d):qm (row cs d) (2*cs.length-2)=cs.length:=by
 have h1:=ke F.up d _ F.enough;have h2:=zmg _ _ (zbp F.up d _ F.enough);rw [zeS F.up d _ F.enough,vI,Nat.pow_succ,Nat.mul_comm (2^d) 2,←Nat.mul_assoc] at h2;have h3:=F.two;have hp:0<2^d:=Nat.two_pow_pos d;generalize qm (row cs d) (2*cs.length-2)=m at *;rcases Nat.lt_or_ge m cs.length with hlt | hge
 ·exfalso
  have h4:(m*2)*2^d≤(2*cs.length-2)*2^d:=Nat.mul_le_mul_right _ (by omega);have h5:m=0:=by omega
  subst h5;have h6:2*2^d≤(2*cs.length-2)*2^d:=Nat.mul_le_mul_right _ (by omega);omega
 ·omega
theorem Fit.le {cs:List Nat}{d:Nat}(F:Fit cs d):∀ m∈top cs d,m≤cs.length:=fun m hm=>by
 have:=zbp F.up d _ F.enough m hm;have:=F.all;omega
theorem Fit.la_pos {cs:List Nat}{d:Nat}(F:Fit cs d){i:Nat}(h:i<cs.length):1≤la (top cs d) i:=by
 have:=F.all;unfold top;cases d with
 | zero=>rw [lev,vt,this,if_pos h];omega
 | succ d=>rw [lev,vt,this,if_pos h];omega
theorem Fit.la_le {cs:List Nat}{d:Nat}(i:Nat):la (top cs d) i≤d+1:=by
 have:=YtacpfpghokcdlaaGreatDoor.Y.la_le (top cs d) i;rwa [top,vI] at this
theorem Fit.kraft {cs:List Nat}{d:Nat}(F:Fit cs d) (hd:d+1≤15):zL cs.length (fun i=>2^(15-la (top cs d) i))=32768:=by
 have h1:=zk5 (top cs d) cs.length F.le;rw [top,zeS F.up d _ F.enough] at h1;have h2:zL cs.length (fun i=>wi (top cs d) i+2^(d+1-la (top cs d) i))=cs.length*2^(d+1):=by
  rw [←qN];refine zA fun i _=>?_
  have:=zlN (zev F.up d _ F.enough) i;rwa [vI] at this
 rw [jB,top,h1] at h2;have h3:zL cs.length (fun i=>2^(d+1-la (top cs d) i))=2^(d+1):=by
  have:=F.two;rw [Nat.pow_succ] at h2 ⊢;have e:cs.length*(2^d*2)=(2*cs.length-2)*2^d+2^d*2:=by
   rw [Nat.mul_comm (2^d) 2,←Nat.mul_assoc,←Nat.add_mul];congr 1
   omega
  rw [top];omega
 have h4:zL cs.length (fun i=>2^(15-la (top cs d) i))=zL cs.length (fun i=>2^(d+1-la (top cs d) i))*2^(15-(d+1)):=by
  rw [←zfq];refine zA fun i _=>?_
  have := @Fit.la_le cs d i;rw [←Nat.pow_add];congr 1
  omega
 rw [h4,h3,←Nat.pow_add,show d+1+(15-(d+1))=15 by omega]
theorem Fit.costs {cs:List Nat}{d:Nat}(F:Fit cs d):zL cs.length (fun i=>cs.getD i 0*la (top cs d) i)=best cs d:=by
 rw [zh9 cs _ F.le,top,zhg F.up d _ F.enough,best]
end Go.Proofs.YtacpfpghokcdlaaGreatDoor.Y
namespace Go.Proofs.YtacpfpghokcdlaaGreatDoor
set_option maxRecDepth 100000
section
open Y (zL zv xj zA jB)
def LBs:List Nat:=[3,4,5,6,7,8,9,10,11,13,15,17,19,23,27,31,35,43,51,59,67,83,99,115,131,163,195,227,258]
def LXs:List Nat:=[0,0,0,0,0,0,0,0,1,1,1,1,2,2,2,2,3,3,3,3,4,4,4,4,5,5,5,5,0]
def DBs:List Nat:=[1,2,3,4,5,7,9,13,17,25,33,49,65,97,129,193,257,385,513,769,1025,1537,2049,3073,4097,6145,8193,12289,16385,24577]
def DXs:List Nat:=[0,0,0,0,1,1,2,2,3,3,4,4,5,5,6,6,7,7,8,8,9,9,10,10,11,11,12,12,13,13]
theorem XP:∀ i,i<29→lenOf (257+i)=some (LBs.getD i 0,LXs.getD i 0):=by decide
theorem XG:∀ i,i<30→xu i=some (DBs.getD i 0,DXs.getD i 0):=by decide
def upn (B:List Nat) (n:Nat):Nat:=B.countP fun b=>decide (b≤n)
def rix (B:List Nat) (n:Nat):Nat:=upn B n-1
theorem vz {B:List Nat}(h:B.Pairwise (· < ·)) (n:Nat):(∀ i,i<upn B n→B.getD i 0≤n)∧∀ i,upn B n≤i→i<B.length→n<B.getD i 0:=by
 induction B with
 | nil=>exact ⟨fun i hi=>by simp [upn] at hi,fun i _ hi=>by simp at hi⟩
 | cons b B ih=>
  obtain ⟨h1,h2⟩:=List.pairwise_cons.1 h;obtain ⟨i1,i2⟩:=ih h2;by_cases hb:b≤n
  ·have e:upn (b::B) n=upn B n+1:=by unfold upn;rw [List.countP_cons,decide_eq_true hb,if_pos rfl]
   rw [e];refine ⟨fun i hi=>?_,fun i hi hl=>?_⟩
   ·cases i with
    | zero=>exact hb
    | succ i=>exact i1 i (by omega)
   ·cases i with
    | zero=>omega
    | succ i=>exact i2 i (by omega) (by simpa using hl)
  ·have e0:upn B n=0:=by
    unfold upn;rw [List.countP_eq_zero];intro x hx;have:=h1 x hx;simp;omega
   have e:upn (b::B) n=0:=by unfold upn at e0 ⊢;rw [List.countP_cons,decide_eq_false hb,e0];rfl
   rw [e];refine ⟨fun i hi=>absurd hi (Nat.not_lt_zero i),fun i _ hl=>?_⟩;cases i with
   | zero=>show n<b;omega
   | succ i=>exact i2 i (by omega) (by simpa using hl)
theorem Qu (B:List Nat) (n:Nat):upn B n≤B.length:=List.countP_le_length
theorem vp:LBs.Pairwise (· < ·):=by decide
theorem vC:DBs.Pairwise (· < ·):=by decide
theorem zjo:∀ i,i<28→LBs.getD (i+1) 0≤LBs.getD i 0+2^LXs.getD i 0:=by decide
theorem ziE:∀ i,i<29→DBs.getD (i+1) 0≤DBs.getD i 0+2^DXs.getD i 0:=by decide
theorem zck {B:List Nat}(h:B.Pairwise (· < ·)) (hB:0<B.length){n:Nat}(hn:B.getD 0 0≤n):1≤upn B n:=by
 rcases Nat.eq_zero_or_pos (upn B n) with e | e
 ·have:=(vz h n).2 0 (by omega) hB
  omega
 ·exact e
theorem lix {n:Nat}(h1:3≤n) (h2:n≤258):1≤upn LBs n∧rix LBs n<29∧LBs.getD (rix LBs n) 0≤n∧n<LBs.getD (rix LBs n) 0+2^LXs.getD (rix LBs n) 0:=by
 have hp:=zck vp (by decide) (n:=n) h1;have hl:=Qu LBs n;rw [show LBs.length=29 from rfl] at hl;obtain ⟨a1,a2⟩:=vz vp n;have hr:rix LBs n=upn LBs n-1:=rfl;have hb:=a1 (rix LBs n) (by omega);refine ⟨hp,by omega,hb,?_⟩;by_cases e:rix LBs n=28
 ·rw [e] at hb ⊢
  have:LBs.getD 28 0+2^LXs.getD 28 0=259:=by decide
  omega
 ·have h3:=a2 (rix LBs n+1) (by omega) (by show _<29;omega)
  have h4:=zjo (rix LBs n) (by omega);omega
theorem dix {n:Nat}(h1:1≤n) (h2:n≤32768):1≤upn DBs n∧rix DBs n<30∧DBs.getD (rix DBs n) 0≤n∧n<DBs.getD (rix DBs n) 0+2^DXs.getD (rix DBs n) 0:=by
 have hp:=zck vC (by decide) (n:=n) h1;have hl:=Qu DBs n;rw [show DBs.length=30 from rfl] at hl;obtain ⟨a1,a2⟩:=vz vC n;have hr:rix DBs n=upn DBs n-1:=rfl;have hb:=a1 (rix DBs n) (by omega);refine ⟨hp,by omega,hb,?_⟩;by_cases e:rix DBs n=29
 ·rw [e] at hb ⊢
  have:DBs.getD 29 0+2^DXs.getD 29 0=32769:=by decide
  omega
 ·have h3:=a2 (rix DBs n+1) (by omega) (by show _<30;omega)
  have h4:=ziE (rix DBs n) (by omega);omega
abbrev Tok:=V.M.Tok
def z7 (t:Tok):Prop:=V.M.zce t∧t.lit<256
def lsy (n:Nat):Nat:=257+rix LBs n
def dsy (n:Nat):Nat:=rix DBs n
def fsy (t:Tok):Nat:=if t.len=0 then t.lit else lsy t.len
def lxt (n:Nat):Nat:=LXs.getD (rix LBs n) 0
def lbs (n:Nat):Nat:=LBs.getD (rix LBs n) 0
def dxt (n:Nat):Nat:=DXs.getD (rix DBs n) 0
def dbs (n:Nat):Nat:=DBs.getD (rix DBs n) 0
theorem z7.len {t:Tok}(h:z7 t) (h0:t.len≠0):3≤t.len∧t.len≤258∧1≤t.dist∧t.dist≤32768:=by
 rcases h.1 with h1 | h1
 ·exact absurd h1.1 h0
 ·exact ⟨h1.1,h1.2.1,h1.2.2.1,h1.2.2.2.1⟩
theorem z7.fsy {t:Tok}(h:z7 t):fsy t<286∧fsy t≠256:=by
 unfold Go.Proofs.YtacpfpghokcdlaaGreatDoor.fsy;by_cases h0:t.len=0
 ·rw [if_pos h0];have:=h.2;omega
 ·rw [if_neg h0]
  have h1:=h.len h0;have h2:=lix h1.1 h1.2.1;unfold lsy;omega
theorem z7.dsy {t:Tok}(h:z7 t) (h0:t.len≠0):dsy t.dist<30:=by
 have h1:=h.len h0;exact (dix h1.2.2.1 h1.2.2.2).2.1
def cntF (r:List Tok) (y:Nat):Nat:=r.countP fun t=>decide (fsy t=y)
def vK (r:List Tok) (y:Nat):Nat:=r.countP fun t=>decide (t.len≠0∧dsy t.dist=y)
def cfL (r:List Tok):List Nat:=(List.range 286).map fun y=>cntF r y+if y=256 then 1 else 0
def coL (r:List Tok):List Nat:=(List.range 30).map fun y=>vK r y
theorem qt (r:List Tok):(cfL r).length=286:=by simp [cfL]
theorem qx (r:List Tok):(coL r).length=30:=by simp [coL]
theorem uL (r:List Tok){y:Nat}(h:y<286):(cfL r).getD y 0=cntF r y+if y=256 then 1 else 0:=by simp [cfL,List.getD,h]
theorem Q5 (r:List Tok){y:Nat}(h:y<30):(coL r).getD y 0=vK r y:=by simp [coL,List.getD,h]
theorem yV (r:List Tok) (y:Nat):cntF r y≤r.length:=List.countP_le_length
theorem QR (r:List Tok) (y:Nat):vK r y≤r.length:=List.countP_le_length
theorem zey {r:List Tok}{t:Tok}(h:t∈r):0<cntF r (fsy t):=List.countP_pos_iff.2 ⟨t,h,by simp⟩
theorem zga {r:List Tok}{t:Tok}(h:t∈r) (h0:t.len≠0):0<vK r (dsy t.dist):=List.countP_pos_iff.2 ⟨t,h,by simp [h0]⟩
theorem kY (N:Nat) (p:Tok→Prop) [DecidablePred p] (f:Tok→Nat) (g:Nat→Nat) (r:List Tok) (hf:∀ t∈r,p t→f t<N) :
  zL N (fun y=>r.countP (fun t=>decide (p t∧f t=y))*g y)=(r.map fun t=>if p t then g (f t) else 0).sum:=by
 induction r with
 | nil=>
  simp only [List.countP_nil,List.map_nil,List.sum_nil,Nat.zero_mul];rw [Y.qN,Nat.mul_zero]
 | cons t r ih=>
  have ih:=ih fun x hx=>hf x (List.mem_cons_of_mem _ hx)
  have h1:zL N (fun y=>(t::r).countP (fun t=>decide (p t∧f t=y))*g y)=zL N (fun y=>r.countP (fun t=>decide (p t∧f t=y))*g y+(if p t∧f t=y then g y else 0)):=by
   refine zA fun y _=>?_
   rw [List.countP_cons,Nat.add_mul];congr 1
   by_cases h:p t∧f t=y
   ·rw [if_pos (decide_eq_true h),if_pos h,Nat.one_mul]
   ·rw [if_neg (by simpa using h),if_neg h,Nat.zero_mul]
  rw [h1,jB,ih,List.map_cons,List.sum_cons,Nat.add_comm];congr 1
  by_cases hp:p t
  ·rw [if_pos hp]
   have hN:=hf t (List.mem_cons_self ..) hp;clear h1 ih hf;have key:∀ n,zL n (fun y=>if p t∧f t=y then g y else 0)=if f t<n then g (f t) else 0:=by
    intro n;induction n with
    | zero=>rfl
    | succ n ih=>
     rw [zv,ih];by_cases e:f t=n
     ·subst e
      rw [if_neg (Nat.lt_irrefl _),if_pos ⟨hp,rfl⟩,if_pos (Nat.lt_succ_self _),Nat.zero_add]
     ·rw [if_neg (show ¬(p t∧f t=n) from fun h=>e h.2),Nat.add_zero]
      by_cases h2:f t<n
      ·rw [if_pos h2,if_pos (by omega)]
      ·rw [if_neg h2,if_neg (by omega)]
   rw [key,if_pos hN]
  ·rw [if_neg hp]
   have:(fun y=>if p t∧f t=y then g y else 0)=fun _=>0:=by
    funext y
    rw [if_neg fun h=>hp h.1]
   rw [this,Y.qN,Nat.mul_zero]
def xx (ns ls:List Nat) (k:Nat):Nat:=zL k fun y=>ns.getD y 0*ln ls y
theorem za5 (ls:List Nat){r:List Tok}(h:∀ t∈r,z7 t):xx (cfL r) ls 286=(r.map fun t=>ln ls (fsy t)).sum+ln ls 256:=by
 have e1:xx (cfL r) ls 286=zL 286 (fun y=>r.countP (fun t=>decide (True∧fsy t=y))*ln ls y+if y=256 then ln ls y else 0):=by
  refine zA fun y hy=>?_
  rw [uL r hy,Nat.add_mul];congr 1
  ·simp only [true_and]
   rfl
  ·by_cases e:y=256
   ·rw [if_pos e,if_pos e,Nat.one_mul]
   ·rw [if_neg e,if_neg e,Nat.zero_mul]
 have key:∀ n,256<n→zL n (fun y=>if y=256 then ln ls y else 0)=ln ls 256:=by
  intro n hn;induction n with
  | zero=>omega
  | succ n ih=>
   rw [zv];by_cases e:n=256
   ·subst e
    rw [if_pos rfl];have:zL 256 (fun y=>if y=256 then ln ls y else 0)=0:=by
     rw [zA (g:=fun _=>0) fun i hi=>if_neg (by omega),Y.qN]
    omega
   ·rw [ih (by omega),if_neg e,Nat.add_zero]
 rw [e1,jB,kY 286 (fun _=>True) fsy (ln ls) r (fun t ht _=>(h t ht).fsy.1),key 286 (by omega)]
 simp only [if_true]
theorem zbH (ls:List Nat){r:List Tok}(h:∀ t∈r,z7 t):xx (coL r) ls 30=(r.map fun t=>if t.len≠0 then ln ls (dsy t.dist) else 0).sum:=by
 have e1:xx (coL r) ls 30=zL 30 (fun y=>r.countP (fun t=>decide (t.len≠0∧dsy t.dist=y))*ln ls y):=
  zA fun y hy=>by rw [Q5 r hy];rfl
 rw [e1,kY 30 (fun t=>t.len≠0) (fun t=>dsy t.dist) (ln ls) r fun t ht h0=>(h t ht).dsy h0]
def k9 (ns:List Nat) (k:Nat):Nat:=zL k fun i=>ns.getD (257+i) 0*LXs.getD i 0
def yd (ns:List Nat) (k:Nat):Nat:=zL k fun i=>ns.getD i 0*DXs.getD i 0
theorem zej {r:List Tok}(h:∀ t∈r,z7 t):k9 (cfL r) 29=(r.map fun t=>if t.len≠0 then lxt t.len else 0).sum:=by
 have e1:k9 (cfL r) 29=zL 29 (fun i=>r.countP (fun t=>decide (t.len≠0∧rix LBs t.len=i))*LXs.getD i 0):=by
  refine zA fun i hi=>?_
  rw [uL r (by omega),if_neg (by omega),Nat.add_zero];congr 1
  unfold cntF;refine List.countP_congr fun t ht=>?_
  simp only [decide_eq_true_eq];unfold fsy lsy;by_cases h0:t.len=0
  ·rw [if_pos h0]
   have:=(h t ht).2;constructor
   ·intro e;omega
   ·intro e;exact absurd h0 e.1
  ·rw [if_neg h0]
   constructor
   ·intro e;exact ⟨h0,by omega⟩
   ·intro e;omega
 rw [e1,kY 29 (fun t=>t.len≠0) (fun t=>rix LBs t.len) (fun i=>LXs.getD i 0) r fun t ht h0=>(lix ((h t ht).len h0).1 ((h t ht).len h0).2.1).2.1];rfl
theorem zdB {r:List Tok}(h:∀ t∈r,z7 t):yd (coL r) 30=(r.map fun t=>if t.len≠0 then dxt t.dist else 0).sum:=by
 have e1:yd (coL r) 30=zL 30 (fun i=>r.countP (fun t=>decide (t.len≠0∧dsy t.dist=i))*DXs.getD i 0):=
  zA fun y hy=>by rw [Q5 r hy];rfl
 rw [e1,kY 30 (fun t=>t.len≠0) (fun t=>dsy t.dist) (fun i=>DXs.getD i 0) r fun t ht h0=>(h t ht).dsy h0];rfl
def jx (fl ol:List Nat) (t:Tok):List (Nat × Nat):=
 if t.len=0 then [cp fl t.lit] else [cp fl (lsy t.len),(t.len-lbs t.len,lxt t.len),cp ol (dsy t.dist),(t.dist-dbs t.dist,dxt t.dist)]
def zG (fl ol:List Nat) (r:List Tok):List (Nat × Nat):=r.flatMap (jx fl ol)
theorem ziM {fl ol:List Nat}{t:Tok}(h:z7 t) (hf:ln fl (fsy t)≠0) (ho:t.len≠0→ln ol (dsy t.dist)≠0):zlg fl ol t (jx fl ol t):=by
 by_cases h0:t.len=0
 ·refine .inl ⟨h0,h.2,?_,by unfold jx;rw [if_pos h0]⟩
  unfold fsy at hf;rwa [if_pos h0] at hf
 ·have h1:=h.len h0
  obtain ⟨_,a1,a2,a3⟩:=lix h1.1 h1.2.1;obtain ⟨_,b1,b2,b3⟩:=dix h1.2.2.1 h1.2.2.2;unfold fsy at hf;rw [if_neg h0] at hf;refine .inr ⟨h0,lsy t.len,lbs t.len,lxt t.len,t.len-lbs t.len,dsy t.dist,dbs t.dist,dxt t.dist,t.dist-dbs t.dist,XP _ a1,?_,?_,XG _ b1,?_,?_,hf,ho h0,by unfold jx;rw [if_neg h0]⟩
  ·unfold lbs lxt;omega
  ·unfold lbs;omega
  ·unfold dbs dxt;omega
  ·unfold dbs;omega
theorem UV {fl ol:List Nat}{r:List Tok}(h:∀ t∈r,z7 t) (hf:∀ t∈r,ln fl (fsy t)≠0) (ho:∀ t∈r,t.len≠0→ln ol (dsy t.dist)≠0):U8 fl ol r (zG fl ol r):=by
 induction r with
 | nil=>rfl
 | cons t r ih=>
  refine ⟨jx fl ol t,zG fl ol r,rfl,ziM (h t (List.mem_cons_self ..)) (hf t (List.mem_cons_self ..)) (ho t (List.mem_cons_self ..)),ih ?_ ?_ ?_⟩
  ·exact fun x hx=>h x (List.mem_cons_of_mem _ hx)
  ·exact fun x hx=>hf x (List.mem_cons_of_mem _ hx)
  ·exact fun x hx=>ho x (List.mem_cons_of_mem _ hx)
theorem JE (fl ol:List Nat) (t:Tok):wid (jx fl ol t)=ln fl (fsy t)+(if t.len≠0 then ln ol (dsy t.dist) else 0)+(if t.len≠0 then lxt t.len else 0)+if t.len≠0 then dxt t.dist else 0:=by
 unfold jx fsy;by_cases h0:t.len=0
 ·simp [h0,wid,cp]
 ·simp only [h0,if_false,wid,cp,ne_eq,not_false_eq_true,if_true]
  omega
theorem Ko (fl ol:List Nat){r:List Tok}(h:∀ t∈r,z7 t):wid (zG fl ol r)+ln fl 256=xx (cfL r) fl 286+xx (coL r) ol 30+(k9 (cfL r) 29+yd (coL r) 30):=by
 rw [za5 fl h,zbH ol h,zej h,zdB h];have key:wid (zG fl ol r)=(r.map fun t=>ln fl (fsy t)).sum+(r.map fun t=>if t.len≠0 then ln ol (dsy t.dist) else 0).sum+((r.map fun t=>if t.len≠0 then lxt t.len else 0).sum+(r.map fun t=>if t.len≠0 then dxt t.dist else 0).sum):=by
  clear h;induction r with
  | nil=>rfl
  | cons t r ih=>
   have e:zG fl ol (t::r)=jx fl ol t++zG fl ol r:=rfl;rw [e,zh,ih,JE];simp only [List.map_cons,List.sum_cons];omega
 rw [key];omega
theorem yv (ls:List Nat) (y:Nat):(cp ls y).1<2^(cp ls y).2:=ve _ _
theorem zgI (fl ol:List Nat){t:Tok}(h:z7 t):xI (jx fl ol t):=by
 intro c hc;unfold jx at hc;by_cases h0:t.len=0
 ·rw [if_pos h0,List.mem_singleton] at hc
  rw [hc];exact yv _ _
 ·rw [if_neg h0] at hc
  have h1:=h.len h0;obtain ⟨_,a1,a2,a3⟩:=lix h1.1 h1.2.1;obtain ⟨_,b1,b2,b3⟩:=dix h1.2.2.1 h1.2.2.2;simp only [List.mem_cons,List.not_mem_nil,or_false] at hc;rcases hc with rfl | rfl | rfl | rfl
  ·exact yv _ _
  ·show t.len-lbs t.len<2^lxt t.len
   unfold lbs lxt;omega
  ·exact yv _ _
  ·show t.dist-dbs t.dist<2^dxt t.dist
   unfold dbs dxt;omega
theorem KF (fl ol:List Nat){r:List Tok}(h:∀ t∈r,z7 t):xI (zG fl ol r):=by
 intro c hc;obtain ⟨t,ht,hc⟩:=List.mem_flatMap.1 hc;exact zgI fl ol (h t ht) c hc
end
end Go.Proofs.YtacpfpghokcdlaaGreatDoor
namespace Go.Proofs.YtacpfpghokcdlaaGreatDoor.Y
set_option maxRecDepth 100000
section
open Go.RowKit
structure Touch (S:Nat→Prop) (w w':World):Prop where
 os:w'.os=w.os
 tape:w'.tape=w.tape
 output:w'.output=w.output
 size:w.heap.size≤w'.heap.size
 block:∀ k,k<w.heap.size→¬S k→w'.heap[k]? = w.heap[k]?
theorem Touch.refl (S:Nat→Prop) (w:World):Touch S w w:=⟨rfl,rfl,rfl,Nat.le_refl _,fun _ _ _=>rfl⟩
theorem Touch.trans {S:Nat→Prop}{a b c:World}(h:Touch S a b) (k:Touch S b c):Touch S a c:=
 ⟨k.os.trans h.os,k.tape.trans h.tape,k.output.trans h.output,Nat.le_trans h.size k.size,fun i hi hs=>(k.block i (Nat.lt_of_lt_of_le hi h.size) hs).trans (h.block i hi hs)⟩
theorem Touch.mono {S T:Nat→Prop}{a b:World}(h:Touch S a b) (hT:∀ i,S i→T i):Touch T a b:=
 ⟨h.os,h.tape,h.output,h.size,fun i hi hs=>h.block i hi fun s=>hs (hT i s)⟩
theorem Touch.drewN {S:Nat→Prop}{a w:World}(h:Touch S a w) (n:Nat):Touch S a (w.drewN n):=⟨h.os,h.tape,h.output,h.size,h.block⟩
theorem Touch.drew {S:Nat→Prop}{a w:World}(h:Touch S a w):Touch S a w.drew:=⟨h.os,h.tape,h.output,h.size,h.block⟩
theorem Touch.alloc {S:Nat→Prop}{a w:World}(h:Touch S a w) (o:Obj):Touch S a (w.alloc o):=
 h.trans ⟨rfl,rfl,rfl,by simp,fun k hk _=>Below.heap_alloc _ _ _ hk⟩
theorem Touch.setCell {S:Nat→Prop}{a w:World}(h:Touch S a w) (p:Addr) (u:Value) (hp:S p.block∨a.heap.size≤p.block):Touch S a (w.setCell p u):=
 ⟨h.os,h.tape,h.output,Nat.le_trans h.size (by simp [World.setCell]),fun k hk hs=>(Below.heap_setCell _ _ _ _ (fun e=>by subst e;rcases hp with hp | hp;exact hs hp;omega)).trans (h.block k hk hs)⟩
theorem Touch.grown {S:Nat→Prop}{a w w':World}{row:Option Nat}(h:Touch S a w) (hg:w.grownBy w' row) (hr:∀ k,row=some k→S k∨a.heap.size≤k):Touch S a w':=
 ⟨hg.os.trans h.os,hg.tape.trans h.tape,hg.output.trans h.output,Nat.le_trans h.size hg.size,fun k hk hs=>
  (hg.block k (Nat.lt_of_lt_of_le hk h.size) (fun e=>by rcases hr k e.symm with hp | hp;exact hs hp;omega)).trans (h.block k hk hs)⟩
theorem Touch.below {S:Nat→Prop}{a b:World}{B:Nat}(h:Touch S a b) (hB:B≤a.heap.size) (hS:∀ k,S k→B≤k):Below B a b:=
 ⟨h.os,h.tape,h.output,h.size,fun k hk=>h.block k (by omega) fun s=>by have:=hS k s;omega⟩
theorem zd {S:Nat→Prop}{w w':World}{base:Nat}{e:TypeId}{size:Nat}{v:Value}{n:Nat}{xs:List Value}(h:w.ownsRow base e size v n xs) (ht:Touch S w w') (hs:∀ k,v.ownBlock=some k→¬S k):w'.ownsRow base e size v n xs:=by
 refine ⟨h.1,?_⟩;rcases h.2 with hn | ⟨g,cap,cur,rfl,hb,hgg,rest⟩
 ·exact .inl hn
 ·refine .inr ⟨g,cap,cur,rfl,hb,?_,rest⟩
  rw [ht.block g (Array.getElem?_eq_some_iff.1 hgg).1 (hs g (by simp [Value.ownBlock]))];exact hgg
theorem Touch.of_below {S:Nat→Prop}{a b:World}(h:Below a.heap.size a b):Touch S a b:=⟨h.os,h.tape,h.output,h.size,fun k hk _=>h.block k hk⟩
def Blk (w:World) (g:Nat) (t:TypeId) (cs:Array Value):Prop:=w.heap[g]? = some (.cells cs t (0,0))
theorem Blk.lt {w:World}{g:Nat}{t:TypeId}{cs:Array Value}(h:Blk w g t cs):g<w.heap.size:=by
 rcases Nat.lt_or_ge g w.heap.size with hlt | hge
 ·exact hlt
 ·rw [Blk,Array.getElem?_eq_none hge] at h;cases h
theorem Blk.cell {w:World}{g:Nat}{t:TypeId}{cs:Array Value}(h:Blk w g t cs) (i:Nat):w.cell? ⟨g,i,none⟩=cs[i]? := cell_of_row w g i cs t (0,0) h
theorem Blk.free {w:World}{g:Nat}{t:TypeId}{cs:Array Value}(h:Blk w g t cs) (i:Nat):w.frozen? ⟨g,i,none⟩=false:=by
 rw [Blk] at h;simp [World.frozen?,h]
theorem Blk.made (w:World) (t:TypeId) (cs:Array Value):Blk (w.alloc (.cells cs t)) w.heap.size t cs:=by
 show (w.heap.push _)[w.heap.size]? = _;simp
theorem Blk.touch {S:Nat→Prop}{w w':World}{g:Nat}{t:TypeId}{cs:Array Value}(h:Blk w g t cs) (ht:Touch S w w') (hs:¬S g):Blk w' g t cs:=
 (ht.block g h.lt hs).trans h
theorem Blk.below {w w':World}{g:Nat}{t:TypeId}{cs:Array Value}(h:Blk w g t cs) (hb:Below w.heap.size w w'):Blk w' g t cs:=(hb.block g h.lt).trans h
theorem Blk.low {w w':World}{B g:Nat}{t:TypeId}{cs:Array Value}(h:Blk w g t cs) (hb:Below B w w') (hg:g<B):Blk w' g t cs:=(hb.block g hg).trans h
theorem Blk.drewN {w:World}{g:Nat}{t:TypeId}{cs:Array Value}(h:Blk w g t cs) (q:Nat):Blk (w.drewN q) g t cs:=h
theorem Blk.setCell {w:World}{g:Nat}{t:TypeId}{cs:Array Value}(h:Blk w g t cs) (i:Nat) (u:Value):Blk (w.setCell ⟨g,i,none⟩ u) g t (cs.setIfInBounds i u):=by
 rw [Blk] at h ⊢;simp [World.setCell,Array.getElem?_modify,h]
theorem jW (n:Nat) (f g:Nat→Nat) (k x:Nat) (h:∀ i,i<n→g i=if i=k then x else f i):(ia n f).setIfInBounds k (.int .i64 (x:Nat))=ia n g:=by
 rw [qF];refine zq fun i hi=>?_
 rw [h i hi];split <;> rfl
section
variable {P:Program}{ops:Array Oper}{rest:List Oper}{o:Oper}{a:Act}{w:World}{Q:Exit→Act→World→Prop}
theorem zy (hgd:o.guard=none) (t:TypeId) (l c:Operand) (ho:o.op=.makeSlice t l c) (e:TypeId) (z:Value) (size bytes n:Nat) (hu:P.underlying t=some (.slice e))
  (hin:(P.info? e).map (fun i=>(i.zero,i.size,i.bytes))=some (some z,size,bytes)) (kl kc:IntKind) (L C:Int) (hl:a.eval l=.int kl L) (hc:a.eval c=.int kc C) (hL:L=n) (hC:C=n) (hb:bytes*n≤281474976710656) (h63:n≤9223372036854775807)
  (h:∀ W,Blk W w.heap.size e (va (n*size) (fun i=>z.cells[i%z.cells.size]!))→Touch (fun _=>False) w W→W.heap.size=w.heap.size+1→wpList P ops Q rest (a.put o.dst (.slice (some ⟨w.heap.size,0,none⟩) n n)) W):wpList P ops Q (o::rest) a w:=by
 subst hL hC;obtain ⟨i,hi,hz0,hz1,hz2⟩:=info_parts hin;have hr:=run_make (P:=P) w t e i z hu hi hz0 kl kc n n (by omega) (Int.le_refl _) (by rw [hz2];omega) (by omega);rw [Int.toNat_natCast,hz1,vF] at hr;refine wpList_plain hgd fun K hK=>?_
 unfold Oper.wp execOp;simp only [ho,hl,hc,Sem.run_bind,Sem.run_pure,hr,Result.andThen_ok];exact hK _ _ (h _ (Blk.made w e _) ((Touch.refl _ w).alloc _) (by simp))
end
def IS (w:World) (ao:Option Addr) (zs:List Int):Prop:=
 zs=[]∨∃ b off,ao=some ⟨b,off,none⟩∧∀ j,j<zs.length→w.cell? ⟨b,off+j,none⟩=some (.int .i64 (zs.getD j 0))
theorem IS.below {w w':World}{ao:Option Addr}{zs:List Int}(h:IS w ao zs) (hb:Below w.heap.size w w'):IS w' ao zs:=by
 rcases h with h | ⟨b,off,rfl,hc⟩
 ·exact .inl h
 ·exact .inr ⟨b,off,rfl,fun j hj=>by
   have:=hc j hj;exact (hb.cell (World.block_lt_of_cell? w _ this)).trans this⟩
theorem IS.drewN {w:World}{ao:Option Addr}{zs:List Int}(h:IS w ao zs) (n:Nat):IS (w.drewN n) ao zs:=h.below (below_drewN (Below.refl _ _) n)
theorem IS.touch {S:Nat→Prop}{w w':World}{ao:Option Addr}{zs:List Int}(h:IS w ao zs) (ht:Touch S w w') (hs:∀ b off,ao=some ⟨b,off,none⟩→zs≠[]→¬S b):IS w' ao zs:=by
 rcases h with h | ⟨b,off,rfl,hc⟩
 ·exact .inl h
 ·by_cases hx:zs=[]
  ·exact .inl hx
  ·refine .inr ⟨b,off,rfl,fun j hj=>?_⟩
   have h1:=hc j hj;rw [←h1];exact World.cell?_of_block (ht.block b (World.block_lt_of_cell? w _ h1) (hs b off rfl hx))
theorem IS.at {w:World}{ao:Option Addr}{zs:List Int}(h:IS w ao zs){k:Nat}(hk:k<zs.length):∃ b off,ao=some ⟨b,off,none⟩∧w.cell? ⟨b,off+k,none⟩=some (.int .i64 (zs.getD k 0)):=by
 rcases h with h | ⟨b,off,rfl,hc⟩
 ·rw [h] at hk;simp at hk
 ·exact ⟨b,off,rfl,hc k hk⟩
theorem Touch.none_below {a b:World}(h:Touch (fun _=>False) a b):Below a.heap.size a b:=h.below (Nat.le_refl _) fun _ h=>h.elim
theorem ownsRow_below {w w':World}{base:Nat}{e:TypeId}{size:Nat}{v:Value}{n:Nat}{xs:List Value}(h:w.ownsRow base e size v n xs) (hb:Below w.heap.size w w'):w'.ownsRow base e size v n xs:=
 zd h (Touch.of_below (S:=fun _=>False) hb) fun _ _ h=>h
structure Apg (w:World) (base e sz:Nat) (v:Value) (n:Nat) (xs:List Value) (v':Value) (w':World):Prop where
 own:w'.ownsRow base e sz v' n xs
 touch:Touch (fun k=>v.ownBlock=some k) w w'
 row:∀ k,v'.ownBlock=some k→v.ownBlock=some k∨w.heap.size≤k
theorem Apg.alloc {a b:World}{base e sz n:Nat}{v1 v2:Value}{xs:List Value}{o:Obj}(k:Apg (a.alloc o) base e sz v1 n xs v2 b):Apg a base e sz v1 n xs v2 b:=
 ⟨k.own,((Touch.refl _ a).alloc o).trans k.touch,fun i hi=>by
  rcases k.row i hi with h | h
  ·exact .inl h
  ·right;simp at h;omega⟩
theorem Apg.below {a b:World}{base e sz n:Nat}{v1 v2:Value}{xs ys:List Value}{m:Nat}(k:Apg a base e sz v1 n xs v2 b) (h:a.ownsRow base e sz v1 m ys) (hb:base≤a.heap.size):Below base a b:=
 k.touch.below hb fun i hi=>(h.lt i hi).1
def zI (w:World) (sv:Value) (m:Nat) (ys:List Value):Prop:=
 (sv=.slice none 0 0∧m=0∧ys=[])∨∃ ad c,sv=.slice (some ad) m c∧∀ j u,ys[j]? = some u→w.cell? (ad.add j)=some u
theorem qY {t e:Nat}{z:Value}{size bytes:Nat}(T:AT t e z size bytes) (w:World){base:Nat}{v sv:Value}{n m:Nat}{xs ys:List Value}(ty:TypeId) (hown:w.ownsRow base e size v n xs) (hs:zI w sv m ys)
  (hyl:ys.length=m*size) (h1:∀ u∈ys,u.oneCell'=true) (hbase:base≤w.heap.size) (hl:n+m≤140737488355328) (hby:(n+m)*bytes≤140737488355328) :
  ∃ v' w',(Builtin.append_ #[t,t] ty #[v,sv]).run prog w=.ok v' w'∧Apg w base e size v (n+m) (xs++ys) v' w':=by
 obtain ⟨i0,hi,hz0,hz1,hz2⟩:=info_parts T.info;rcases hs with ⟨rfl,rfl,rfl⟩ | ⟨ad,c,rfl,hcell⟩
 ·refine ⟨v,w,run_append_owned_none w base t ty e i0 size T.hu hi v n xs hown,?_,Touch.refl _ _,fun k hk => .inl hk⟩
  simpa using hown
 ·rcases hown.2 with ⟨rfl,hn0⟩ | ⟨g,cap,cur,rfl,hbg,hh,hnc,hcm,hcs,htake⟩
  ·subst hn0
   have hx:xs=[]:=List.eq_nil_of_length_eq_zero (by rw [hown.1,Nat.zero_mul]);subst hx;obtain ⟨v',w',hr,ho,hg,_⟩:=run_append_own (P:=prog) w w.heap.size t ty e i0 z size bytes T.hu hi hz0 hz1 hz2 T.zs T.pos (.slice none 0 0) 0 [] (World.ownsRow_nil _ _ _ _) ad m c ys hyl hcell h1 (by unfold maxLen;omega) hby (Nat.le_refl _);exact ⟨v',w',hr,zz ho hbase,(Touch.refl _ w).grown hg fun k hk=>by simp [Value.ownBlock] at hk,fun k hk => .inr (ho.lt k hk).1⟩
  ·by_cases hroom:n+m≤cap
   ·obtain ⟨w',hr,ho,hg⟩:=run_append_fits (P:=prog) w base t ty e i0 size T.hu hi hz1 g n cap xs hown ad m c ys hyl hcell h1 hroom
    exact ⟨_,w',hr,ho,(Touch.refl _ w).grown hg fun k hk => .inl (by cases hk;simp [Value.ownBlock]),fun k hk => .inl (by simpa [Value.ownBlock] using hk)⟩
   ·obtain ⟨v',w',hr,ho,hg⟩:=run_append_arg_grows (P:=prog) w t ty e i0 z size bytes T.hu hi hz0 hz1 hz2 T.zs T.pos ⟨g,0,none⟩ n cap xs hown.1 (hown.cells (by simp [Value.ownBlock])) ad m c ys hyl hcell (by omega) (by unfold maxLen;omega) hby
    exact ⟨v',w',hr,zz ho hbase,(Touch.refl _ w).grown hg (fun k hk=>by cases hk),fun k hk => .inr (ho.lt k hk).1⟩
theorem ze {t e:Nat}{z:Value}{size bytes:Nat}(T:AT t e z size bytes){w:World}{ops:Array Oper}{rest:List Oper}{o:Oper}{a:Act}{Q:Exit→Act→World→Prop}(hgd:o.guard=none) (s x:Operand)
  (ho:o.op=.call { callee:=.builtin .append,args := #[s,x],argTypes := #[t,t] })
  (base:Nat) (v sv:Value) (n m:Nat) (xs ys:List Value) (hs:a.eval s=v) (hx:a.eval x=sv) (hown:w.ownsRow base e size v n xs) (hsrc:zI w sv m ys)
  (hyl:ys.length=m*size) (h1:∀ u∈ys,u.oneCell'=true) (hbase:base≤w.heap.size) (hl:n+m≤140737488355328) (hby:(n+m)*bytes≤140737488355328)
  (h:∀ ao c w',Apg w base e size v (n+m) (xs++ys) (.slice ao (n+m) c) w'→wpList prog ops Q rest (a.put o.dst (.slice ao (n+m) c)) w'):wpList prog ops Q (o::rest) a w:=by
 refine wpList_plain hgd fun K hK=>?_
 obtain ⟨v',w',hrun,hA⟩:=qY T w o.type hown hsrc hyl h1 hbase hl hby
 obtain ⟨ao,c,rfl⟩:=zr hA.own;unfold Oper.wp;simp [execOp,ho,resolve,invoke,builtin,hs,hx,hrun,Result.andThen];exact hK _ _ (by simpa using h ao c w' hA)
end
theorem zjN (cs:List Nat) (d:Nat):row cs (d+1)=mrg cs (qI (cost (row cs d))):=rfl
theorem zjI (cs:List Nat):row cs 0=cs.map fun c=>(c,true):=rfl
theorem uA:∀ {l:List Nat}{x:Nat},x∈qI l→∃ a b,a∈l∧b∈l∧x=a+b
 | a::b::t,x,h=>by
  rw [qI,List.mem_cons] at h;rcases h with rfl | h
  ·exact ⟨a,b,by simp,by simp,rfl⟩
  ·obtain ⟨u,v,hu,hv,e⟩:=uA h
   exact ⟨u,v,by simp [hu],by simp [hv],e⟩
section
open Go.Lib renaming hid → J
open Go.RowKit
def cl (r:List (Nat × Bool)):List Value:=r.flatMap fun x=>[.int .i64 (x.1:Nat),.bool x.2]
theorem uh (x:Nat × Bool) (r:List (Nat × Bool)):cl (x::r)=.int .i64 (x.1:Nat) :: .bool x.2::cl r:=rfl
theorem zle (a b:List (Nat × Bool)):cl a++cl b=cl (a++b):=by simp [cl]
theorem zaw (r:List (Nat × Bool)):(cl r).length=r.length*2:=by
 induction r with
 | nil=>rfl
 | cons x r ih=>rw [uh,List.length_cons,List.length_cons,ih,List.length_cons];omega
theorem QZ (r:List (Nat × Bool)):∀ u∈cl r,u.oneCell'=true:=by
 induction r with
 | nil=>intro u hu;cases hu
 | cons x r ih=>
  intro u hu;rw [uh,List.mem_cons,List.mem_cons] at hu;rcases hu with rfl | rfl | hu
  ·rfl
  ·rfl
  ·exact ih u hu
def cn' (r:List (Nat × Bool)) (k:Nat):Nat × Bool:=r.getD k (0,false)
theorem Kx (r:List (Nat × Bool)) (k:Nat) (h:k<r.length):(cl r)[k*2]? = some (.int .i64 ((cn' r k).1:Nat))∧(cl r)[k*2+1]? = some (.bool (cn' r k).2):=by
 induction r generalizing k with
 | nil=>simp at h
 | cons x r ih=>
  cases k with
  | zero=>exact ⟨rfl,rfl⟩
  | succ k=>
   have:=ih k (by simpa using h);rw [uh,show (k+1)*2=k*2+1+1 by omega,List.getElem?_cons_succ,List.getElem?_cons_succ,List.getElem?_cons_succ,List.getElem?_cons_succ];exact this
def CS (w:World) (ao:Option Addr) (r:List (Nat × Bool)):Prop:=r=[]∨∃ b off,ao=some ⟨b,off,none⟩∧w.rangeAt b off (cl r)
theorem CS.on {w w':World}{ao:Option Addr}{r:List (Nat × Bool)}(h:CS w ao r) (hb:Below w.heap.size w w'):CS w' ao r:=by
 rcases h with h | ⟨b,off,rfl,hc⟩
 ·exact .inl h
 ·exact .inr ⟨b,off,rfl,fun j v hv=>by
   have:=hc j v hv;exact (hb.cell (World.block_lt_of_cell? w _ this)).trans this⟩
theorem CS.at {w:World}{ao:Option Addr}{r:List (Nat × Bool)}(h:CS w ao r){k:Nat}(hk:k<r.length) :
  ∃ b off,ao=some ⟨b,off,none⟩∧w.cell? ⟨b,off+k*2,none⟩=some (.int .i64 ((cn' r k).1:Nat))∧w.cell? ⟨b,off+k*2+1,none⟩=some (.bool (cn' r k).2):=by
 rcases h with rfl | ⟨b,off,rfl,hc⟩
 ·simp at hk
 ·have:=Kx r k hk
  exact ⟨b,off,rfl,hc _ _ this.1,by have:=hc _ _ this.2;rwa [←Nat.add_assoc] at this⟩
def ints (l:List Nat):List Int:=l.map fun x:Nat=>(x:Int)
theorem zj (l:List Nat):(ints l).length=l.length:=by simp [ints]
theorem ints_at (l:List Nat) (k:Nat):(ints l).getD k 0=(l.getD k 0:Nat):=by
 unfold ints;rcases Nat.lt_or_ge k l.length with h | h <;> simp [List.getD,h]
theorem IS.nat {w:World}{ao:Option Addr}{l:List Nat}(h:IS w ao (ints l)){k:Nat}(hk:k<l.length):∃ b off,ao=some ⟨b,off,none⟩∧w.cell? ⟨b,off+k,none⟩=some (.int .i64 (l.getD k 0:Nat)):=by
 have:=h.at (k:=k) (by rw [zj];exact hk);rwa [ints_at] at this
def cts (ns us:List Nat):List Nat:=us.map fun u=>ns.getD u 0
theorem zS (ns us:List Nat):(cts ns us).length=us.length:=by simp [cts]
theorem Xq (ns us:List Nat) (k:Nat) (h:k<us.length):(cts ns us).getD k 0=ns.getD (us.getD k 0) 0:=by simp [cts,List.getD,h]
def sgF (cs:List Nat) (k i:Nat):Value:=if i/2<k then (if i%2=0 then .int .i64 (cs.getD (i/2) 0:Nat) else .bool true) else (if i%2=0 then .int .i64 0 else .bool false)
theorem zkh (cs:List Nat) (n k:Nat):((va (n*2) (sgF cs k)).setIfInBounds (k*2) (.int .i64 (cs.getD k 0:Nat))).setIfInBounds (k*2+1) (.bool true)=va (n*2) (sgF cs (k+1)):=by
 rw [qF,qF];refine zq fun i _=>?_
 unfold sgF;by_cases e1:i=k*2+1
 ·rw [if_pos e1,if_pos (by omega),if_neg (by omega)]
 ·rw [if_neg e1]
  by_cases e2:i=k*2
  ·rw [if_pos e2,if_pos (by omega),if_pos (by omega),show i/2=k by omega]
  ·rw [if_neg e2]
   by_cases e3:i/2<k
   ·rw [if_pos e3,if_pos (show i/2<k+1 by omega)]
   ·rw [if_neg e3,if_neg (show ¬i/2<k+1 by omega)]
theorem zlO (cs:List Nat) (w:World) (g:Nat) (h:Blk w g 248 (va (cs.length*2) (sgF cs cs.length))):w.rangeAt g 0 (cl (cs.map fun c=>(c,true))):=fun j v hv=>by
 have hj:j<cs.length*2:=by
  have:=(List.getElem?_eq_some_iff.1 hv).1;rwa [zaw,List.length_map] at this
 have hk:j/2<cs.length:=by omega
 have:=Kx (cs.map fun c=>(c,true)) (j/2) (by simpa using hk)
 rw [Nat.zero_add,h.cell,zw _ _ j hj,←hv];unfold sgF;rw [if_pos hk];have e:cn' (cs.map fun c=>(c,true)) (j/2)=(cs.getD (j/2) 0,true):=by simp [cn',List.getD,hk]
 rw [e] at this;rcases Nat.mod_two_eq_zero_or_one j with e1 | e1
 ·rw [if_pos e1,show j=j/2*2 by omega,this.1]
  simp
 ·rw [if_neg (by omega)]
  have h2:=this.2;rw [show j/2*2+1=j by omega] at h2;exact h2.symm
def zcf (r:List (Nat × Bool)) (w:World) (e:Ending) (w':World):Prop:=∃ ao c,e=.returned (.slice ao r.length c)∧CS w' ao r∧Below w.heap.size w w'∧r.length≤c∧(ao=none→c=0)∧∀ b off,ao=some ⟨b,off,none⟩→w.heap.size≤b
set_option maxHeartbeats 1600000 in
theorem kB (ao bo:Option Addr) (c e:Nat) (ns us:List Nat) (w:World) (h:IS w ao (ints ns)) (hu:IS w bo (ints us)) (hl:us.length≤320) (hb:∀ u∈us,u<ns.length) :
  Calls prog 179 #[.slice ao ns.length c,.slice bo us.length e] w (zcf ((cts ns us).map fun c=>(c,true)) w):=by
 have HI:=J h;have HU:=J hu;have HB:=J hb;clear h hu hb;go_enter func179,ntmps179;go_wp2_with (refine zy rfl 236 (.tmp 9) (.tmp 9) rfl 248 (.agg #[.int .i64 0,.bool false]) 2 16 us.length (by kernel_rfl) (by kernel_rfl) .i64 .i64 us.length us.length rfl rfl rfl rfl (by omega) (by omega) ?_;intro W hb ht hs;have HS:=J hs;clear hs);obtain ⟨g,hg⟩:=exq (w.heap.size);have HG:=J hg;rw [←hg] at hb ⊢;have H0:Hid (Blk W g 248 (va (us.length*2) (sgF (cts ns us) 0))∧Below w.heap.size w W):=J ⟨by
  have e:va (us.length*2) (fun i=>(Value.agg #[.int .i64 0,.bool false]).cells[i%(Value.agg #[.int .i64 0,.bool false]).cells.size]!)=va (us.length*2) (sgF (cts ns us) 0):=zq fun i _=>by
   unfold sgF;rw [if_neg (by omega)];rcases Nat.mod_two_eq_zero_or_one i with e1 | e1
   ·rw [if_pos e1];simp [Value.cells,e1]
   ·rw [if_neg (by omega)];simp [Value.cells,e1]
  rw [←e];exact hb,ht.none_below⟩
 clear hb ht hg HS;go_loopw [13] (fun iv wr=>∃ k:Nat,k≤us.length∧iv=.int .i64 k∧Blk wr g 248 (va (us.length*2) (sgF (cts ns us) k))∧Below w.heap.size w wr) (fun iv _=>us.length-(intOf iv).toNat)
 case atStart=>exact ⟨0,Nat.zero_le _,rfl,H0.out⟩
 case round=>
  obtain ⟨k,hk,rfl,hrel⟩:=hrel;have HR:=J hrel;clear hrel H0;by_cases hlt:k<us.length
  ·have hkk:(k:Int)<us.length:=by omega
   obtain ⟨b1,o1,rfl,c1⟩:=(HU.out.below HR.out.2).nat hlt;obtain ⟨u,hu⟩:=exq (us.getD k 0);have hun:u<ns.length:=by rw [hu];refine HB.out _ ?_;rw [List.getD_eq_getElem?_getD,List.getElem?_eq_getElem hlt];exact List.getElem_mem hlt
   have HUU:=J hu;rw [←hu] at c1;clear hu;obtain ⟨b2,o2,rfl,c2⟩:=(HI.out.below HR.out.2).nat hun;obtain ⟨x,hx⟩:=exq (ns.getD u 0);have HX:=J hx;rw [←hx] at c2;clear hx;have hun':(u:Int)<ns.length:=by omega
   have q1:=(HR.out.1.cell (k*2)).trans (zw _ _ (k*2) (by omega));have q2:=(HR.out.1.cell (k*2+1)).trans (zw _ _ (k*2+1) (by omega));have f1:=HR.out.1.free (k*2);have f2:=HR.out.1.free (k*2+1);go_wp2;go_roundw;case rel=>
    refine ⟨k+1,by omega,by go_num,?_,?_⟩
    ·have h1:=(HR.out.1.setCell (k*2) (.int .i64 (x:Nat))).setCell (k*2+1) (.bool true)
     rw [HX.out,HUU.out,←Xq ns us k hlt,zkh] at h1;rw [HX.out,HUU.out,←Xq ns us k hlt];exact h1
    ·have hw:w.heap.size≤g:=by rw [HG.out];exact Nat.le_refl _
     exact (HR.out.2.setCell (p:=⟨g,k*2,none⟩) hw _).setCell (p:=⟨g,k*2+1,none⟩) hw _
   case measure=>simp [intOf];omega
  ·have hk':k=us.length:=by omega
   subst hk';go_wp2;go_ret;refine ⟨some ⟨g,0,none⟩,us.length,by simp [zS],.inr ⟨g,0,rfl,zlO _ _ _ ?_⟩,HR.out.2,by simp [zS],fun e=>(by cases e),fun b off e=>by cases e;rw [HG.out];exact Nat.le_refl _⟩
   rw [zS];exact HR.out.1
end
end Go.Proofs.YtacpfpghokcdlaaGreatDoor.Y
