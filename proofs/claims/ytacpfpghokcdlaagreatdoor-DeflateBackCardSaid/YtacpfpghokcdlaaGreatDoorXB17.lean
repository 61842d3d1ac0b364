/- Part 17. -/
import Derived.Lib.EndianBits
import Derived.Maps.OwnOps
import Derived.Maps.OwnSet
import Derived.Maps.Views
import Derived.Test.YtacpfpghokcdlaaGreatDoorXB16
open Go.Proofs.Tryz
namespace Go.Proofs.YtacpfpghokcdlaaGreatDoor
set_option maxRecDepth 100000
def upN (most:Nat):List Tok→Nat→Nat→Nat
 | [],_,_=>0
 | t::r,k,told=>if 0<k∧told<most then upN most r (k-1) (told+V.M.tells t)+1 else 0
theorem zgw (most:Nat):∀ (r:List Tok) (k told:Nat),upN most r k told≤r.length∧upN most r k told≤k:=by
 intro r;induction r with
 | nil=>intro k told;exact ⟨Nat.zero_le _,Nat.zero_le _⟩
 | cons t r ih=>
  intro k told;rw [upN];split
  ·have:=ih (k-1) (told+V.M.tells t)
   rw [List.length_cons];omega
  ·exact ⟨Nat.zero_le _,Nat.zero_le _⟩
theorem Us (most:Nat):∀ (r:List Tok) (k told j:Nat),j≤r.length→told+V.M.sum (r.take j)=most→told+V.M.sum (r.take (upN most r k told))≤most∧upN most r k told≤j:=by
 intro r;induction r with
 | nil=>intro k told j hj h;simp [upN,V.M.sum] at h ⊢;omega
 | cons t r ih=>
  intro k told j hj h;rw [upN];split
  ·rename_i hc
   cases j with
   | zero=>simp [V.M.sum] at h;omega
   | succ j=>
    rw [List.take_succ_cons,V.M.sum_cons] at h;have:=ih (k-1) (told+V.M.tells t) j (by simpa using hj) (by omega);rw [List.take_succ_cons,V.M.sum_cons];omega
  ·rw [List.take_zero];simp [V.M.sum];omega
theorem zcv {most:Nat}{r:List Tok}(h:r≠[]) (hm:0<most):1≤upN most r 16384 0:=by
 obtain ⟨t,r,rfl⟩:=List.exists_cons_of_ne_nil h;rw [upN,if_pos ⟨by omega,hm⟩];omega
structure Pst where
 r:List Tok
 at_:Nat
 P:List (Nat × Nat)
def pk1 (bs:List Nat) (en:Nat) (s:Pst):Pst:=
 let n:=upN (en-s.at_) s.r 16384 0
 let told:=V.M.sum (s.r.take n)
 ⟨s.r.drop n,s.at_+told,s.P++xq (wid s.P) (s.r.take n) ((bs.drop s.at_).take told) (decide (s.at_+told=bs.length))⟩
def pkB (bs:List Nat) (en:Nat):Nat→Pst→Pst
 | 0,s=>s
 | f+1,s=>if (pk1 bs en s).at_<en then pkB bs en f (pk1 bs en s) else pk1 bs en s
def pkS (bs:List Nat):List Nat→Pst→Pst
 | [],s=>s
 | en::es,s=>pkS bs es (pkB bs en (s.r.length+1) s)
def qz (P:List (Nat × Nat)):List Nat:=(List.range ((wid P+7)/8)).map fun i=>val P/256^i%256
theorem zaG (N:Nat):∀ n,num ((List.range n).map fun i=>N/256^i%256)=N%256^n:=by
 intro n;induction n with
 | zero=>simp [num,Nat.mod_one]
 | succ n ih=>
  rw [List.range_succ,List.map_append,yY,ih,List.length_map,List.length_range];simp only [List.map_cons,List.map_nil,Xm];rw [Nat.pow_succ,Nat.mod_mul]
theorem xP {P:List (Nat × Nat)}(h:xI P):jL (qz P) P:=by
 have hlen:(qz P).length=(wid P+7)/8:=by simp [qz]
 have hv:=zld h;have hb:Bs (qz P):=fun x hx=>by
  obtain ⟨i,_,rfl⟩:=List.mem_map.1 hx;exact Nat.mod_lt _ (by decide)
 have hn:num (qz P)=val P:=by
  unfold qz;rw [zaG];refine Nat.mod_eq_of_lt (Nat.lt_of_lt_of_le hv ?_);rw [show (256:Nat)=2^8 from rfl,←Nat.pow_mul];exact Nat.pow_le_pow_right (by omega) (by omega)
 exact ⟨hb,⟨by omega,by omega,by rw [hn];exact hv⟩,hn⟩
structure AP (bs:List Nat) (ends:List Nat) (r:List Tok):Prop where
 ex:V.M.ex r []=some bs
 ok:∀ t∈r,z7 t
 cut:∀ e∈ends,∃ j,j≤r.length∧V.M.sum (r.take j)=e
structure Ends (n:Nat) (ends:List Nat):Prop where
 asc:ends.Pairwise (· < ·)
 last:ends.getLast? = some n
 pos:∀ e∈ends,e≤n∧(e=0→n=0)
theorem zlZ {r:List Tok}{l m:List Nat}(h:V.M.ex r l=some m) (hl:∀ t∈r,t.lit<256):∀ t∈r,z7 t:=by
 induction r generalizing l with
 | nil=>intro t ht;cases ht
 | cons u r ih=>
  rw [V.M.ex] at h;split at h
  ·rename_i hc
   intro t ht;rcases List.mem_cons.1 ht with rfl | ht
   ·exact ⟨hc.1,hl t (List.mem_cons_self ..)⟩
   ·exact ih h (fun z hz=>hl z (List.mem_cons_of_mem _ hz)) t ht
  ·cases h
structure Mid (bs:List Nat) (R:List Tok) (s:Pst) (j k:Nat):Prop where
 rest:s.r=R.drop j
 j_le:j≤R.length
 at_:s.at_=V.M.sum (R.take j)
 fit:xI s.P
 wide:wid s.P≤64*k+8*s.at_
 k_le:k≤j
 nl:NL bs.length s.P (bs.take s.at_) k
structure zhs (bs:List Nat) (s:Pst) (k:Nat):Prop where
 fit:xI s.P
 wide:wid s.P≤64*k+8*bs.length
 few:k≤bs.length+1
 infl:∀ out,jL out s.P→∃ st,infl out bs.length=.ok () ⟨wid s.P,bs,st,k⟩
theorem Mid.start (bs:List Nat) (R:List Tok):Mid bs R ⟨R,0,[]⟩ 0 0:=⟨rfl,Nat.zero_le _,rfl,(fun c hc=>by cases hc),Nat.zero_le _,Nat.zero_le _,NL.nil _⟩
section
variable {bs:List Nat}{R:List Tok}{ends:List Nat}
theorem AP.mid (A:AP bs ends R){s:Pst}{j k:Nat}(M:Mid bs R s j k):V.M.ex s.r (bs.take s.at_)=some bs∧s.at_≤bs.length∧s.at_+V.M.sum s.r=bs.length:=by
 have h1:=V.M.J0 A.ex j;have h0:V.M.ex (R.take j++R.drop j) []=some bs:=by rw [List.take_append_drop];exact A.ex
 rw [V.M.jH,h1.1] at h0;rw [M.rest,M.at_];have h2:=V.M.xk (show V.M.ex (R.drop j) (bs.take (V.M.sum (R.take j)))=some bs from h0);rw [List.length_take,Nat.min_eq_left h1.2] at h2;exact ⟨h0,h1.2,h2.symm⟩
theorem Jw (R:List Tok) (j i:Nat) (hij:j≤i):V.M.sum (R.take i)=V.M.sum (R.take j)+V.M.sum ((R.drop j).take (i-j)):=by
 have e:R.take i=R.take j++(R.drop j).take (i-j):=by
  rw [←List.take_add];congr 1;omega
 rw [e];simp [V.M.sum]
theorem Mid.one (hbs:Bs bs) (hl:bs.length≤65535) (A:AP bs ends R){s:Pst}{j k en:Nat}(M:Mid bs R s j k) (he:en∈ends) (hen:en≤bs.length) (hat:s.at_<en∨(s.at_=en∧bs.length=0)) :
  (pk1 bs en s).at_≤en∧s.at_≤(pk1 bs en s).at_∧(pk1 bs en s).r.length≤s.r.length∧(s.at_<en→(pk1 bs en s).r.length<s.r.length)∧
   ((pk1 bs en s).at_<bs.length→∃ j',Mid bs R (pk1 bs en s) j' (k+1))∧((pk1 bs en s).at_=bs.length→zhs bs (pk1 bs en s) (k+1)):=by
 obtain ⟨hx,hle,hsum⟩:=A.mid M;obtain ⟨i,hi,hie⟩:=A.cut en he;have hjm:=M.j_le;have hji:j≤i∨s.at_=en:=by
  rcases Nat.lt_or_ge i j with h | h
  ·right
   have h3:=Jw R i j (by omega);have h4:=M.at_;omega
  ·exact .inl h
 obtain ⟨n,hn⟩:=exq (upN (en-s.at_) s.r 16384 0);obtain ⟨told,ht⟩:=exq (V.M.sum (s.r.take n));have hnl:=zgw (en-s.at_) s.r 16384 0;rw [←hn] at hnl;have htold:told≤en-s.at_:=by
  rcases hji with hji | hji
  ·have h3:=Jw R j i hji
   have h4:=M.at_;have:=(Us (en-s.at_) s.r 16384 0 (i-j) (by rw [M.rest,List.length_drop];omega) (by rw [M.rest];omega)).1;rw [←hn,←ht] at this;omega
  ·have:=(Us (en-s.at_) s.r 16384 0 0 (Nat.zero_le _) (by simp [V.M.sum];omega)).1
   rw [←hn,←ht] at this;omega
 have e1:pk1 bs en s=⟨s.r.drop n,s.at_+told,s.P++xq (wid s.P) (s.r.take n) ((bs.drop s.at_).take told) (decide (s.at_+told=bs.length))⟩:=by
  rw [ht,hn];rfl
 rw [e1];simp only;have hok:∀ t∈s.r.take n,z7 t:=fun t h=>A.ok t (List.mem_of_mem_drop (by have:=List.mem_of_mem_take h;rwa [M.rest] at this))
 have hb2:Bs ((bs.drop s.at_).take told):=fun x h=>hbs x (List.mem_of_mem_drop (List.mem_of_mem_take h))
 have hbl:((bs.drop s.at_).take told).length=told:=by rw [List.length_take,List.length_drop];omega
 have htk:bs.take (s.at_+told)=bs.take s.at_++(bs.drop s.at_).take told:=List.take_add;have hexn:V.M.ex (s.r.take n) (bs.take s.at_)=some (bs.take s.at_++(bs.drop s.at_).take told):=by
  have h0:V.M.ex (s.r.take n++s.r.drop n) (bs.take s.at_)=some bs:=by rw [List.take_append_drop];exact hx
  rw [V.M.jH] at h0;cases h1:V.M.ex (s.r.take n) (bs.take s.at_) with
  | none=>rw [h1] at h0;cases h0
  | some m=>
   rw [h1] at h0;have h2:V.M.ex (s.r.drop n) m=some bs:=h0;have h3:=V.M.zcc h2;have h4:=V.M.xk h1;rw [List.length_take,Nat.min_eq_left hle,←ht] at h4;rw [h4] at h3;rw [←h3,htk]
 have hB:=fun last=>zh1 (lim:=bs.length) (pos:=wid s.P) (o:=bs.take s.at_) (r:=s.r.take n) last hok hb2 (by omega) hexn (by rw [List.length_take,hbl];omega)
 have hF:=fun last=>XJ (pos:=wid s.P) (r:=s.r.take n) (b:=(bs.drop s.at_).take told) last hok hb2 (by omega)
 have hW:=fun last=>Jn (pos:=wid s.P) (r:=s.r.take n) (b:=(bs.drop s.at_).take told) last hok (by omega)
 have hWl:∀ last,wid s.P+wid (xq (wid s.P) (s.r.take n) ((bs.drop s.at_).take told) last)≤wid s.P+64+8*told:=fun last=>by
  rw [hW last,hbl];have h1:max ((told+65534)/65535) 1=1:=by omega
  have h2:jF (wid s.P) told≤wid s.P+64+8*told:=by unfold jF bnd;rw [h1];omega
  omega
 refine ⟨by omega,by omega,by rw [List.length_drop];omega,?_,?_,?_⟩
 ·intro hlt
  have hrne:s.r≠[]:=fun e=>by
   rw [e] at hsum;simp [V.M.sum] at hsum;omega
  have:=zcv (most:=en-s.at_) hrne (by omega);have:=List.length_pos_iff.2 hrne;rw [List.length_drop,hn];omega
 ·intro hlt
  rw [decide_eq_false (by omega)];have hlast:=hB false;have hn1:1≤n:=by
   rcases hat with h | h
   ·have hrne:s.r≠[]:=fun e=>by
     rw [e] at hsum;simp [V.M.sum] at hsum;omega
    have:=zcv (most:=en-s.at_) hrne (by omega);omega
   ·omega
  have hrl:n≤R.length-j:=by have:=hnl.1;rw [M.rest,List.length_drop] at this;exact this
  have hsd:=Jw R j (j+n) (by omega);rw [show j+n-j=n by omega,←M.rest,←ht] at hsd;have hMa:=M.at_;have hMw:=M.wide;have hMk:=M.k_le;refine ⟨j+n,⟨?_,by omega,by rw [hsd];simp only;omega,M.fit.app (hF false),?_,by omega,?_⟩⟩
  ·show s.r.drop n=R.drop (j+n)
   rw [M.rest,List.drop_drop]
  ·show wid (s.P++_)≤64*(k+1)+8*(s.at_+told)
   rw [zh];have:=hWl false;omega
  ·show NL bs.length (s.P++_) (bs.take (s.at_+told)) (k+1)
   rw [htk];exact M.nl.snoc hlast
 ·intro heq
  rw [decide_eq_true heq];have hMw:=M.wide;have hRl:=V.M.xX R;have hRs:=V.M.xk A.ex;have hMk:=M.k_le;simp only [List.length_nil,Nat.zero_add] at hRs;refine ⟨M.fit.app (hF true),?_,by omega,?_⟩
  ·show wid (s.P++_)≤64*(k+1)+8*bs.length
   rw [zh];have:=hWl true;omega
  ·intro out ho
   obtain ⟨st,h⟩:=M.nl.done (hB true) ho;refine ⟨st,?_⟩;rw [h,←htk,heq,List.take_length]
theorem Mid.upto (hbs:Bs bs) (hl:bs.length≤65535) (A:AP bs ends R){en:Nat}(he:en∈ends) (hen:en≤bs.length):∀ (f:Nat){s:Pst}{j k:Nat},Mid bs R s j k→s.r.length<f→(s.at_<en∨(s.at_=en∧bs.length=0))→
  ∃ k',k<k'∧(pkB bs en f s).at_=en∧(en<bs.length→∃ j',Mid bs R (pkB bs en f s) j' k')∧(en=bs.length→zhs bs (pkB bs en f s) k'):=by
 intro f;induction f with
 | zero=>intro s j k _ h _;omega
 | succ f ih=>
  intro s j k M hf hat;obtain ⟨h1,h2,h3,h4,h5,h6⟩:=M.one hbs hl A he hen hat;rw [pkB];by_cases hlt:(pk1 bs en s).at_<en
  ·rw [if_pos hlt]
   obtain ⟨j',M'⟩:=h5 (by omega);obtain ⟨k',k1,k2,k3,k4⟩:=ih M' (by
    rcases hat with h | h
    ·have:=h4 h;omega
    ·omega) (.inl hlt)
   exact ⟨k',by omega,k2,k3,k4⟩
  ·rw [if_neg hlt]
   refine ⟨k+1,by omega,by omega,fun h=>h5 (by omega),fun h=>h6 (by omega)⟩
theorem Mid.all (hbs:Bs bs) (hl:bs.length≤65535) (A:AP bs ends R):∀ (es:List Nat){s:Pst}{j k:Nat},(∀ e∈es,e∈ends)→es.Pairwise (· < ·)→es.getLast? = some bs.length→(∀ e∈es,e≤bs.length)→(∀ e∈es,s.at_<e∨(s.at_=e∧bs.length=0))→Mid bs R s j k→
  ∃ k',k+es.length≤k'∧zhs bs (pkS bs es s) k':=by
 intro es;induction es with
 | nil=>intro s j k _ _ h;simp at h
 | cons en es ih=>
  intro s j k hin hasc hlast hle hat M;obtain ⟨p1,p2⟩:=List.pairwise_cons.1 hasc;obtain ⟨k1,a1,a2,a3,a4⟩:=M.upto hbs hl A (hin en (List.mem_cons_self ..)) (hle en (List.mem_cons_self ..)) (s.r.length+1) (by omega) (hat en (List.mem_cons_self ..));rw [pkS];rcases es with _ | ⟨e2,es⟩
  ·have:en=bs.length:=by simpa using hlast
   rw [pkS];exact ⟨k1,by simp;omega,a4 this⟩
  ·have hlt:en<bs.length:=by
    have:=p1 e2 (List.mem_cons_self ..);have:=hle e2 (by simp);omega
   obtain ⟨j',M'⟩:=a3 hlt;obtain ⟨k2,b1,b2⟩:=ih (fun e h=>hin e (List.mem_cons_of_mem _ h)) p2 (by rw [←hlast];rfl) (fun e h=>hle e (List.mem_cons_of_mem _ h)) (fun e h => .inl (by rw [a2];exact p1 e h)) M'
   refine ⟨k2,?_,b2⟩;simp only [List.length_cons] at b1 ⊢;omega
theorem uB (hbs:Bs bs) (hl:bs.length≤65535) (E:Ends bs.length ends) (A:AP bs ends R):∃ k,ends.length≤k∧zhs bs (pkS bs ends ⟨R,0,[]⟩) k:=by
 have hat:∀ e∈ends,(⟨R,0,[]⟩:Pst).at_<e∨((⟨R,0,[]⟩:Pst).at_=e∧bs.length=0):=fun e he=>by
  have:=(E.pos e he).2;show 0<e∨(0=e∧_);omega
 obtain ⟨k,h1,h2⟩:=Mid.all hbs hl A ends (fun _ h=>h) E.asc E.last (fun e he=>(E.pos e he).1) hat (Mid.start bs R);exact ⟨k,by omega,h2⟩
end
end Go.Proofs.YtacpfpghokcdlaaGreatDoor
namespace Go.Proofs.YtacpfpghokcdlaaGreatDoor.V
set_option maxRecDepth 100000
section
open Go.RowKit
def tcl (r:List M.Tok):List Value:=r.flatMap fun t=>[.int .u8 (t.lit:Nat),.int .i64 (t.len:Nat),.int .i64 (t.dist:Nat)]
theorem vY (t:M.Tok) (r:List M.Tok):tcl (t::r)=.int .u8 (t.lit:Nat) :: .int .i64 (t.len:Nat) :: .int .i64 (t.dist:Nat)::tcl r:=rfl
theorem uj (a b:List M.Tok):tcl a++tcl b=tcl (a++b):=by simp [tcl]
theorem yJ (r:List M.Tok):(tcl r).length=r.length*3:=by
 induction r with
 | nil=>rfl
 | cons t r ih=>rw [vY,List.length_cons,List.length_cons,List.length_cons,ih,List.length_cons];omega
theorem QG (r:List M.Tok):∀ u∈tcl r,u.oneCell'=true:=by
 induction r with
 | nil=>intro u hu;cases hu
 | cons t r ih=>
  intro u hu;rw [vY,List.mem_cons,List.mem_cons,List.mem_cons] at hu;rcases hu with rfl | rfl | rfl | hu
  ·rfl
  ·rfl
  ·rfl
  ·exact ih u hu
def tk (r:List M.Tok) (k:Nat):M.Tok:=r.getD k ⟨0,0,0⟩
theorem zfA (r:List M.Tok) (k:Nat) (h:k<r.length):(tcl r)[k*3]? = some (.int .u8 ((tk r k).lit:Nat))∧(tcl r)[k*3+1]? = some (.int .i64 ((tk r k).len:Nat))∧(tcl r)[k*3+2]? = some (.int .i64 ((tk r k).dist:Nat)):=by
 induction r generalizing k with
 | nil=>simp at h
 | cons t r ih=>
  cases k with
  | zero=>exact ⟨rfl,rfl,rfl⟩
  | succ k=>
   have:=ih k (by simpa using h);rw [vY,show (k+1)*3=k*3+1+1+1 by omega];simp only [List.getElem?_cons_succ,show k*3+1+1+1+1=k*3+1+1+1+1 from rfl];exact this
theorem yM (r:List M.Tok) (k:Nat) (h:k<r.length):r.take (k+1)=r.take k++[tk r k]:=by
 rw [List.take_succ_eq_append_getElem h];unfold tk;rw [List.getD_eq_getElem?_getD,List.getElem?_eq_getElem h];rfl
theorem za6 (r:List M.Tok) (k:Nat) (h:k<r.length):tk r k∈r:=by
 unfold tk;rw [List.getD_eq_getElem?_getD,List.getElem?_eq_getElem h];exact List.getElem_mem h
def KS (w:World) (ao:Option Addr) (r:List M.Tok):Prop:=r=[]∨∃ b off,ao=some ⟨b,off,none⟩∧w.rangeAt b off (tcl r)
theorem KS.on {w w':World}{ao:Option Addr}{r:List M.Tok}(h:KS w ao r) (hb:Below w.heap.size w w'):KS w' ao r:=by
 rcases h with h | ⟨b,off,rfl,hc⟩
 ·exact .inl h
 ·exact .inr ⟨b,off,rfl,fun j v hv=>by
   have:=hc j v hv;exact (hb.cell (World.block_lt_of_cell? w _ this)).trans this⟩
theorem KS.at {w:World}{ao:Option Addr}{r:List M.Tok}(h:KS w ao r){k:Nat}(hk:k<r.length) :
  ∃ b off,ao=some ⟨b,off,none⟩∧w.cell? ⟨b,off+k*3,none⟩=some (.int .u8 ((tk r k).lit:Nat))∧w.cell? ⟨b,off+k*3+1,none⟩=some (.int .i64 ((tk r k).len:Nat))∧w.cell? ⟨b,off+k*3+2,none⟩=some (.int .i64 ((tk r k).dist:Nat)):=by
 rcases h with rfl | ⟨b,off,rfl,hc⟩
 ·simp at hk
 ·obtain ⟨h1,h2,h3⟩:=zfA r k hk
  exact ⟨b,off,rfl,hc _ _ h1,by have:=hc _ _ h2;rwa [←Nat.add_assoc] at this,by have:=hc _ _ h3;rwa [←Nat.add_assoc] at this⟩
theorem KS.take {w:World}{ao:Option Addr}{r:List M.Tok}(h:KS w ao r) (k:Nat):KS w ao (r.take k):=by
 rcases h with rfl | ⟨b,off,rfl,hc⟩
 ·exact .inl (by simp)
 ·refine .inr ⟨b,off,rfl,fun j v hv=>hc j v ?_⟩
  have hsplit:tcl r=tcl (r.take k)++tcl (r.drop k):=by rw [uj,List.take_append_drop]
  rw [hsplit,List.getElem?_append_left (List.getElem?_eq_some_iff.1 hv).1];exact hv
theorem zgd {w:World}{base e:Nat}{ao:Option Addr}{c n:Nat}{r:List M.Tok}(h:w.ownsRow base e 3 (.slice ao n c) n (tcl r)) (hn:r.length=n):KS w ao r:=by
 subst hn;rcases h.2 with ⟨e,h0⟩ | ⟨g,cap,cur,e,hbg,hh,hnc,hcm,hcs,htake⟩
 ·exact .inl (List.eq_nil_of_length_eq_zero h0)
 ·simp only [Value.slice.injEq] at e
  obtain ⟨rfl,_,rfl⟩:=e;refine .inr ⟨g,0,rfl,fun j v hv=>?_⟩;have hj:j<r.length*3:=by
   have:=(List.getElem?_eq_some_iff.1 hv).1;rwa [yJ] at this
  rw [Nat.zero_add,World.ownsRow.cellAt h j (by omega),hv]
theorem u0 (w:World) (e:TypeId) (x y z:Value):zI (w.alloc (.cells #[x,y,z] e)) (.slice (some ⟨w.heap.size,0,none⟩) 1 1) 1 [x,y,z]:=by
 refine .inr ⟨_,1,rfl,fun j u hu=>?_⟩;rw [Addr.add_lit,Nat.zero_add,(Blk.made w e _).cell];simpa using hu
theorem zbc:AT 99 128 (.agg #[.int .u8 0,.int .i64 0,.int .i64 0]) 3 24:=⟨by kernel_rfl,by kernel_rfl,rfl,by omega⟩
end
end Go.Proofs.YtacpfpghokcdlaaGreatDoor.V
namespace Go.Proofs.YtacpfpghokcdlaaGreatDoor
set_option maxRecDepth 100000
theorem zjl (far:Nat) (h1:1≤far):∀ (n:Nat) (l:List Nat),far≤l.length→∀ k,k<n→(V.M.back far n l).getD (l.length+k) 0=(V.M.back far n l).getD (l.length+k-far) 0:=by
 intro n;induction n with
 | zero=>intro l _ k hk;omega
 | succ n ih=>
  intro l hl k hk;have hlen:=V.M.xw far n l;rw [V.M.jC];rcases Nat.lt_or_ge k n with h | h
  ·have:=ih l hl k h
   simp only [List.getD_eq_getElem?_getD] at this ⊢;rw [List.getElem?_append_left (by omega),List.getElem?_append_left (by omega)];exact this
  ·obtain rfl:k=n:=by omega
   simp only [List.getD_eq_getElem?_getD];rw [List.getElem?_append_right (by omega),List.getElem?_append_left (by omega)];rw [show l.length+k-(V.M.back far k l).length=0 by omega,hlen];rfl
def ka (d:Nat) (b:List Nat):List Tok:=if 3≤b.length then [⟨0,b.length,d⟩] else b.map fun c=>⟨c,0,0⟩
theorem vs (b:List Nat):∀ l,V.M.ex (b.map fun c=>(⟨c,0,0⟩:Tok)) l=some (l++b):=by
 induction b with
 | nil=>intro l;simp [V.M.ex]
 | cons c b ih=>
  intro l;rw [List.map_cons,V.M.ex,if_pos ⟨.inl ⟨rfl,rfl⟩,Nat.zero_le _⟩,ih];simp [V.M.one]
structure Apt (bs ends:List Nat) (PR:List Tok) (a:Nat):Prop where
 ex:V.M.ex PR []=some (bs.take a)
 ok:∀ t∈PR,z7 t
 cut:∀ e∈ends,e≤a→∃ j,j≤PR.length∧V.M.sum (PR.take j)=e
 le:a≤bs.length
section
variable {bs ends:List Nat}
theorem Apt.start (hp:∀ e∈ends,0<e):Apt bs ends [] 0:=⟨rfl,(fun t h=>by cases h),(fun e he h=>by have:=hp e he;omega),Nat.zero_le _⟩
theorem Apt.app {PR Q:List Tok}{a m:Nat}(h:Apt bs ends PR a) (hq:V.M.ex Q (bs.take a)=some (bs.take (a+m))) (hok:∀ t∈Q,z7 t) (hm:a+m≤bs.length) (hno:∀ e∈ends,e≤a∨a+m≤e):Apt bs ends (PR++Q) (a+m):=by
 have hx:V.M.ex (PR++Q) []=some (bs.take (a+m)):=by rw [V.M.jH,h.ex];exact hq
 refine ⟨hx,fun t ht=>?_,fun e he hle=>?_,hm⟩
 ·rcases List.mem_append.1 ht with h1 | h1
  ·exact h.ok t h1
  ·exact hok t h1
 ·rcases hno e he with h1 | h1
  ·obtain ⟨j,hj,hs⟩:=h.cut e he h1
   refine ⟨j,by rw [List.length_append];omega,?_⟩;rw [List.take_append_of_le_length hj];exact hs
  ·refine ⟨(PR++Q).length,Nat.le_refl _,?_⟩
   rw [List.take_length];have:=V.M.xk hx;rw [List.length_take,Nat.min_eq_left hm] at this;simp at this;omega
def Far (bs:List Nat) (d a m:Nat):Prop:=1≤d∧d≤a∧d≤32768∧m≤258∧∀ k,k<m→bs.getD (a+k) 0=bs.getD (a+k-d) 0
theorem Apt.part {PR:List Tok}{a m d:Nat}(hbs:Bs bs) (h:Apt bs ends PR a) (hm:a+m≤bs.length) (hno:∀ e∈ends,e≤a∨a+m≤e) (hf:3≤m→Far bs d a m):Apt bs ends (PR++ka d ((bs.drop a).take m)) (a+m):=by
 have hlen:((bs.drop a).take m).length=m:=by rw [List.length_take,List.length_drop];omega
 have htk:bs.take (a+m)=bs.take a++(bs.drop a).take m:=List.take_add;refine h.app ?_ ?_ hm hno
 ·unfold ka
  rw [hlen];split
  ·rename_i h3
   obtain ⟨f1,f2,f3,f4,f5⟩:=hf h3;rw [V.M.ex,if_pos ⟨.inr ⟨h3,f4,f1,f3,rfl⟩,by rw [List.length_take];show d≤_;omega⟩,V.M.vZ bs a d m (by omega) hm f1 f2 f5];rfl
  ·rw [vs,htk]
 ·intro t ht
  unfold ka at ht;rw [hlen] at ht;split at ht
  ·rename_i h3
   obtain ⟨f1,f2,f3,f4,f5⟩:=hf h3;rw [List.mem_singleton] at ht;subst ht;exact ⟨.inr ⟨h3,f4,f1,f3,rfl⟩,Nat.zero_lt_succ _⟩
  ·obtain ⟨c,hc,rfl⟩:=List.mem_map.1 ht
   exact ⟨.inl ⟨rfl,rfl⟩,hbs c (List.mem_of_mem_drop (List.mem_of_mem_take hc))⟩
theorem zjB {R:List Tok}(hx:V.M.ex R []=some bs){k:Nat}(hk:k<R.length):(V.tk R k).len=0∧V.M.tells (V.tk R k)=1∧V.M.sum (R.take k)+1≤bs.length ∨
  V.M.tells (V.tk R k)=(V.tk R k).len∧V.M.sum (R.take k)+(V.tk R k).len≤bs.length∧Far bs (V.tk R k).dist (V.M.sum (R.take k)) (V.tk R k).len:=by
 obtain ⟨t,ht⟩:=exq (V.tk R k);rw [←ht];have h1:=V.M.J0 hx k;have h2:=V.M.J0 hx (k+1);rw [V.yM R k hk,←ht,V.M.zbX h1.1,V.M.Xx] at h2;obtain ⟨a,ha⟩:=exq (V.M.sum (R.take k));rw [←ha] at h1 h2 ⊢;obtain ⟨h2,h3⟩:=h2;split at h2
 ·rename_i hr
  have hr1:=hr.1;have hlt:(bs.take a).length=a:=by rw [List.length_take];omega
  have hd:=hr.2;rw [hlt] at hd;have he:=Option.some.inj h2;by_cases h0:t.len=0
  ·left
   have:V.M.tells t=1:=by unfold V.M.tells;omega
   exact ⟨h0,this,by omega⟩
  ·right
   rcases hr1 with hr1 | hr1
   ·exact absurd hr1.1 h0
   ·have htl:V.M.tells t=t.len:=by unfold V.M.tells;omega
    rw [htl] at h3 he;refine ⟨htl,h3,hr1.2.2.1,hd,hr1.2.2.2.1,hr1.2.1,fun j hj=>?_⟩;unfold V.M.one at he;rw [if_neg h0] at he;have hb:=zjl t.dist hr1.2.2.1 t.len (bs.take a) (by rw [hlt];exact hd) j hj;rw [he,hlt] at hb;simp only [List.getD_eq_getElem?_getD] at hb ⊢;rw [List.getElem?_take_of_lt (by omega),List.getElem?_take_of_lt (by omega)] at hb;exact hb
 ·cases h2
theorem Far.on {d a m x k:Nat}(h:Far bs d a m) (hk:x+k≤m):Far bs d (a+x) k:=by
 obtain ⟨f1,f2,f3,f4,f5⟩:=h;refine ⟨f1,by omega,f3,by omega,fun j hj=>?_⟩
 have:=f5 (x+j) (by omega);rwa [←Nat.add_assoc] at this
theorem Apt.done {PR:List Tok}{a:Nat}(h:Apt bs ends PR a) (ha:a=bs.length) (hE:∀ e∈ends,e≤bs.length):AP bs ends PR:=by
 subst ha;refine ⟨by rw [h.ex,List.take_length],h.ok,fun e he=>h.cut e he (hE e he)⟩
theorem zhY {n:Nat}(E:Ends n ends){i a m:Nat}(hi:i<ends.length) (h1:∀ j,j<i→ends.getD j 0≤a) (h2:a+m≤ends.getD i 0):∀ e∈ends,e≤a∨a+m≤e:=by
 intro e he;obtain ⟨j,hj,rfl⟩:=List.getElem_of_mem he;rcases Nat.lt_or_ge j i with h | h
 ·left
  have:=h1 j h;rwa [List.getD_eq_getElem?_getD,List.getElem?_eq_getElem hj] at this
 ·right
  rcases Nat.lt_or_ge i j with h' | h'
  ·have:=List.pairwise_iff_getElem.1 E.asc i j hi hj h'
   rw [List.getD_eq_getElem?_getD,List.getElem?_eq_getElem hi] at h2;simp only [Option.getD_some] at h2;omega
  ·obtain rfl:i=j:=by omega
   rwa [List.getD_eq_getElem?_getD,List.getElem?_eq_getElem hi] at h2
end
end Go.Proofs.YtacpfpghokcdlaaGreatDoor
namespace Go.Proofs.YtacpfpghokcdlaaGreatDoor.V
set_option maxRecDepth 100000
section
open Go.RowKit
theorem qp {w:World}{v:Value}{xs:List Nat}(h:zi w v xs):∃ ao c,v=.slice ao xs.length c:=by
 rcases h with ⟨rfl,rfl⟩ | ⟨ad,c,rfl,_⟩
 ·exact ⟨none,0,rfl⟩
 ·exact ⟨some ad,c,rfl⟩
theorem xd {w:World}{ao:Option Addr}{n c:Nat}{xs:List Nat}(h:zi w (.slice ao n c) xs) (j:Nat) (hj:j<xs.length):∃ b off,ao=some ⟨b,off,none⟩∧w.cell? ⟨b,off+j,none⟩=some (.int .u8 (xs.getD j 0:Nat)):=by
 obtain ⟨b,off,c',he,_,hc⟩:=h.at (by omega);simp only [Value.slice.injEq] at he;exact ⟨b,off,he.1,hc j hj⟩
theorem Xt {w w':World}{v:Value}{xs:List Nat}(h:zi w v xs) (hb:Below w.heap.size w w'):zi w' v xs:=h.touch (Touch.of_below hb:Touch (fun _=>False) w w') fun _ _ e=>e
abbrev tv (t:M.Tok):Value:=.agg #[.int .u8 (t.lit:Nat),.int .i64 (t.len:Nat),.int .i64 (t.dist:Nat)]
theorem zen {b:List Nat}{at_ dist n most:Nat}(hd:1≤dist) (hda:dist≤at_) (hn:n<most) (hl:at_+n<b.length) (he:b.getD (at_+n) 0=b.getD (at_+n-dist) 0) :
  M.same b (at_+n) dist (most-n)=1+M.same b (at_+(n+1)) dist (most-(n+1)):=by
 rw [show most-n=(most-(n+1))+1 by omega,M.same,if_pos ⟨hl,hd,by omega,he⟩,Nat.add_assoc]
theorem zdK {b:List Nat}{at_ dist n most:Nat}(h:¬(n<most∧at_+n<b.length∧b.getD (at_+n) 0=b.getD (at_+n-dist) 0)) :
  M.same b (at_+n) dist (most-n)=0:=by
 by_cases hn:n<most
 ·rw [show most-n=(most-(n+1))+1 by omega,M.same,if_neg (fun e=>h ⟨hn,e.1,e.2.2.2⟩)]
 ·rw [show most-n=0 by omega];rfl
end
section
open Go.Lib renaming hid → J
open Go.RowKit
theorem zav {b:List Nat}{at_ dist n most:Nat}(_hm:most≤b.length-at_) (h:¬(n<most∧b.getD (at_+n) 0=b.getD (at_+n-dist) 0)):M.same b (at_+n) dist (most-n)=0:=
 zdK fun e=>h ⟨e.1,e.2.2⟩
theorem zeC (b:List Nat) (dist:Nat):∀ most at_,M.same b at_ dist (min most (b.length-at_))=M.same b at_ dist most:=by
 intro most;induction most with
 | zero=>intro at_;rw [Nat.zero_min]
 | succ m ih=>
  intro at_;by_cases h:at_<b.length
  ·rw [show min (m+1) (b.length-at_)=min m (b.length-(at_+1))+1 by omega,M.same,M.same,ih]
  ·rw [show min (m+1) (b.length-at_)=0 by omega,M.same,M.same,if_neg (fun e=>h e.1)]
set_option maxHeartbeats 1600000 in
theorem zbF (ao:Option Addr) (c:Nat) (bs:List Nat) (at_ dist most:Nat) (w:World) (h:zi w (.slice ao bs.length c) bs) (hl:bs.length≤1000000) (ha:at_<bs.length) (h1:1≤dist) (h2:dist≤at_) (_hm:most≤1000000) :
  Calls prog 156 #[.slice ao bs.length c,.int .i64 at_,.int .i64 dist,.int .i64 most] w fun e w'=>e=.returned (.int .i64 (M.same bs at_ dist most:Nat))∧∃ q,w'=w.drewN q:=by
 have HS:=J h;obtain ⟨mo,hmo⟩:=exq (min most (bs.length-at_));have hsm:=zeC bs dist most at_;rw [←hmo] at hsm;have HST:=J fun n hn hl he=>zen (b:=bs) (at_:=at_) (dist:=dist) (n:=n) (most:=mo) h1 h2 hn hl he
 have HSP:=J fun n hn=>zav (b:=bs) (at_:=at_) (dist:=dist) (n:=n) (most:=mo) (by omega) hn
 obtain ⟨L,hL⟩:=exq (bs.length);have HL:=J hL;obtain ⟨S,hS⟩:=exq (M.same bs at_ dist most);have HSM:Hid (S=0+M.same bs (at_+0) dist (mo-0)):=J (by rw [hS,←hsm];simp);rw [←hS];rw [←hL] at hl ha hmo ⊢;have hmb:mo≤L-at_:=by omega
 have ha':(at_:Int)<L:=by omega
 have hge:decide ((L:Int)≤at_)=false:=by simp;omega
 have hge':decide (L≤at_)=false:=by simp;omega
 have h1':(1:Int)≤dist:=by omega
 have h2':(dist:Int)≤at_:=by omega
 have d1:decide ((dist:Int)<1)=false:=by simp;omega
 have d2:decide ((at_:Int)<dist)=false:=by simp;omega
 have d2':decide (at_<dist)=false:=by simp;omega
 have d3:decide ((at_:Int)<0)=false:=by simp
 have e0:IntKind.i64.wrap ((L:Int)-at_)=((L-at_:Nat):Int):=by rw [IntKind.wrap_i64];omega
 have hcm:min (most:Int) ((L-at_:Nat):Int)=(mo:Int):=by omega
 have HCM:=J hcm;have HMO:=J hmo;clear h hL hS hsm hmo hcm;go_enter func156,ntmps156;go_upto_region 3 with fail
 go_cut [3] from 33 (fun s3 wx=>s3=.int .i64 (mo:Nat)∧wx=w);case first=>
  go_wp2;all_goals
   have hcm:=HCM.out;go_meet
   case rel=>exact ⟨by first | rfl | (congr 1 <;> omega),rfl⟩
 case rest=>
 obtain ⟨rfl,hwx⟩:=hcut;rw [hwx];go_wp2;go_loopg [9] (mo+1) (fun gm v9 wr=>∃ n q:Nat,n≤mo∧mo+1-n≤gm∧v9=.int .i64 (n:Nat)∧wr=w.drewN q∧Hid (S=n+M.same bs (at_+n) dist (mo-n)))
 case atStart=>exact ⟨0,0,Nat.zero_le _,by omega,rfl,rfl,HSM⟩
 case round=>
  clear HSM;obtain ⟨n,q,hn,hgm,rfl,rfl,HS1⟩:=hrel;by_cases c1:n<mo
  ·have c1':(n:Int)<mo:=by omega
   have c2:at_+n<L:=by omega
   have c2':(at_:Int)+n<L:=by omega
   obtain ⟨b1,off,rfl,g1⟩:=xd HS.out (at_+n) (by rw [←HL.out];exact c2);obtain ⟨b2,off2,he,g2⟩:=xd HS.out (at_+n-dist) (by rw [←HL.out];omega);simp only [Option.some.injEq,Addr.mk.injEq,and_true] at he;obtain ⟨rfl,rfl⟩:=he;obtain ⟨x,hx⟩:=exq (bs.getD (at_+n) 0);obtain ⟨y,hy⟩:=exq (bs.getD (at_+n-dist) 0);rw [←hx] at g1;rw [←hy] at g2;obtain ⟨k,hk⟩:=exq (at_+n-dist);rw [←hk] at g2;have e1:IntKind.i64.wrap ((at_:Int)+n)=(at_:Int)+n:=by rw [IntKind.wrap_i64];omega
   have e2:(0:Int)≤(at_:Int)+n:=by omega
   have e3:((at_:Int)+n).toNat=at_+n:=by omega
   have e4:(at_:Int)+n-dist=(k:Int):=by omega
   have e5:IntKind.i64.wrap ((at_:Int)+n-dist)=(k:Int):=by rw [IntKind.wrap_i64];omega
   have e6:(k:Int)<L:=by omega
   have HXY:=J (And.intro hx hy);clear hx hy hk;by_cases hxy:x=y
   ·subst hxy
    have dxy:((x:Int) == x)=true:=by simp
    go_wp2;go_quiet (fail)
    go_wp2;go_roundg (mo+1-(n+1))
    case measure=>omega
    case rel=>
     refine ⟨n+1,_,by omega,Nat.le_refl _,by simp,rfl,J ?_⟩;rw [HS1.out,HST.out n c1 (by rw [←HL.out];exact c2) (by rw [←HXY.out.1,←HXY.out.2])];omega
   ·have dxy:((x:Int) == y)=false:=by simp;omega
    have HE:Hid (S=n):=J (by rw [HS1.out,HSP.out n (fun e=>hxy (by rw [HXY.out.1,HXY.out.2];exact e.2))];rfl)
    clear hxy;go_wp2;go_quiet (fail)
    go_wp2;go_ret;exact ⟨by obtain rfl:=HE.out;rfl,_,World.drewN_drewN _ _ _⟩
  ·have c1':decide ((n:Int)<mo)=false:=by simp;omega
   have c1'':decide (n<mo)=false:=by simp;omega
   have HE:Hid (S=n):=J (by rw [HS1.out,HSP.out n (fun e=>c1 e.1)];rfl);clear c1;go_wp2;go_quiet (fail)
   go_wp2;go_ret;exact ⟨by obtain rfl:=HE.out;rfl,_,World.drewN_drewN _ _ _⟩
theorem zdd (w:World) (v:Value) (bs:List Nat) (at_ dist most:Nat) (h:zi w v bs) (hl:bs.length≤1000000) (ha:at_<bs.length) (h1:1≤dist) (h2:dist≤at_) (_hm:most≤1000000) :
  Calls prog 156 #[v,.int .i64 at_,.int .i64 dist,.int .i64 most] w fun e w'=>e=.returned (.int .i64 (M.same bs at_ dist most:Nat))∧∃ q,w'=w.drewN q:=by
 obtain ⟨ao,c,rfl⟩:=qp h;exact zbF ao c bs at_ dist most w h hl ha h1 h2 _hm
theorem zu (t:M.Tok) (w:World) (h2:t.len≤1000000) :
  Calls prog 125 #[tv t] w fun e w'=>e=.returned (.int .i64 (M.tells t:Nat))∧Below w.heap.size w w':=by
 obtain ⟨a,b,d⟩:=t;simp only at h2;have B1:=J ((Below.refl w.heap.size w).alloc (Nat.le_refl _) (.cells #[.int .u8 (a:Nat),.int .i64 (b:Nat),.int .i64 (d:Nat)] 128));obtain ⟨T,hT⟩:=exq (M.tells ⟨a,b,d⟩);have HT:=J (show max (b:Int) 1=(T:Int) by rw [hT];unfold M.tells;simp only;omega);rw [←hT];clear hT;go_enter func125,ntmps125;have hm:=HT.out;go_wp2;all_goals
  go_ret;exact ⟨by first | rfl | (congr 2;omega) | (simp;omega),B1.out⟩
end
end Go.Proofs.YtacpfpghokcdlaaGreatDoor.V
namespace Go.Proofs.YtacpfpghokcdlaaGreatDoor.V.M
set_option maxRecDepth 100000
def zM (b:List Nat) (n:Nat):Nat:=b.getD n 0+256*b.getD (n+1) 0+65536*b.getD (n+2) 0
theorem zbZ {b:List Nat}(h:∀ x∈b,x<256) (n:Nat):zM b n<16777216:=by
 have g:∀ i,b.getD i 0<256:=fun i=>by
  rw [List.getD_eq_getElem?_getD];cases hi:b[i]? with
  | none=>simp
  | some x=>simpa using h x (List.mem_of_getElem? hi)
 have:=g n;have:=g (n+1);have:=g (n+2);unfold zM;omega
def qK (b:List Nat) (k:Nat):Nat→Option Nat
 | 0=>none
 | n+1=>if zM b n=k then some n else qK b k n
theorem Uf {b:List Nat}{k:Nat}:∀ {n p:Nat},qK b k n=some p→p<n∧zM b p=k:=by
 intro n;induction n with
 | zero=>intro p h;cases h
 | succ n ih=>
  intro p h;rw [qK] at h;split at h
  ·cases h;exact ⟨Nat.lt_succ_self _,by assumption⟩
  ·have:=ih h;exact ⟨by omega,this.2⟩
theorem zeZ {b:List Nat}{k q:Nat}:∀ {n:Nat},q<n→zM b q=k→∃ p,qK b k n=some p∧q≤p:=by
 intro n;induction n with
 | zero=>intro h _;omega
 | succ n ih=>
  intro h hk;rw [qK];split
  ·exact ⟨n,rfl,by omega⟩
  ·have:q≠n:=fun e=>by subst e;contradiction
   exact ih (by omega) hk
def pv (b:List Nat) (k n:Nat):Int:=match qK b k n with | none => -1 | some p=>(p:Int)
theorem XT (b:List Nat) (k n:Nat) : -1≤pv b k n∧pv b k n<n:=by
 unfold pv;cases h:qK b k n with
 | none=>simp only;omega
 | some p=>have:=(Uf h).1;simp only;omega
theorem zgB {b:List Nat}{k n p:Nat}(h:pv b k n=(p:Int)):zM b p=k:=by
 unfold pv at h;cases hl:qK b k n with
 | none=>rw [hl] at h;simp only at h;omega
 | some q=>
  rw [hl] at h;simp only at h;obtain rfl:q=p:=by omega
  exact (Uf hl).2
theorem zeM {b:List Nat}{k q n:Nat}(h:q<n) (hk:zM b q=k):(q:Int)≤pv b k n:=by
 obtain ⟨p,hp,hq⟩:=zeZ h hk;unfold pv;rw [hp];simp only;omega
theorem UN {b:List Nat}{at_ d:Nat}(h:four b at_ d):zM b (at_-d)=zM b at_:=by
 obtain ⟨_,h1,h2,h3⟩:=h;have a0:=h3 0 (by omega);have a1:=h3 1 (by omega);have a2:=h3 2 (by omega);unfold zM;rw [show at_-d+1=at_+1-d by omega,show at_-d+2=at_+2-d by omega,←a1,←a2];simp only [Nat.add_zero] at a0;rw [←a0]
theorem zis (b:List Nat) (dist:Nat):∀ most at_ n,n≤most→at_+n≤b.length→1≤dist→dist≤at_→(∀ k,k<n→b.getD (at_+k) 0=b.getD (at_+k-dist) 0)→n≤same b at_ dist most:=by
 intro most;induction most with
 | zero=>intro at_ n h _ _ _ _;rw [same];exact h
 | succ m ih=>
  intro at_ n hn hl h1 h2 hs;cases n with
  | zero=>omega
  | succ n=>
   have h0:=hs 0 (by omega);rw [Nat.add_zero] at h0;rw [same,if_pos ⟨by omega,h1,h2,h0⟩];have:=ih (at_+1) n (by omega) (by omega) h1 (by omega) fun k hk=>by
    have:=hs (k+1) (by omega);rwa [show at_+(k+1)=at_+1+k by omega] at this
   omega
def Cop (b:List Nat) (at_ L D:Nat):Prop:=1≤D∧D≤at_∧D≤32768∧at_+L≤b.length∧∀ k,k<L→b.getD (at_+k) 0=b.getD (at_+k-D) 0
structure Lk (b:List Nat) (at_ most:Nat) (cop:Bool) (pl:Int) (left L D:Nat):Prop where
 low : -1≤pl
 high:pl<at_
 le:L≤most
 best:(L=0∧D=0)∨Cop b at_ L D
 keyed:∀ p:Nat,pl=p→zM b p=zM b at_
 look:cop=false→∀ d,four b at_ d→((at_-d:Nat):Int)≤pl∨4≤L
 many:cop=false→pl+32769≤at_+left
theorem Lk.start {b:List Nat}{at_ most:Nat}{cop:Bool}{left:Nat}(hc:cop=false→left=32768):Lk b at_ most cop (pv b (zM b at_) at_) left 0 0:=by
 have:=XT b (zM b at_) at_;refine ⟨this.1,this.2,Nat.zero_le _,.inl ⟨rfl,rfl⟩,fun p h=>zgB h,fun _ d h => .inl ?_,fun h=>?_⟩
 ·refine zeM ?_ (UN h)
  have:=h.2.1;have:=h.2.2.1;omega
 ·rw [hc h];omega
theorem Lk.none {b:List Nat}{at_ most:Nat}{cop:Bool}{left:Nat}(hc:cop=false→left=32768) (hl:b.length<at_+3):Lk b at_ most cop (-1) left 0 0:=by
 refine ⟨Int.le_refl _,by omega,Nat.zero_le _,.inl ⟨rfl,rfl⟩,fun p h=>by omega,fun _ d h=>?_,fun h=>?_⟩
 ·have:=h.1;omega
 ·rw [hc h];omega
theorem Lk.next {b:List Nat}{at_ most:Nat}{cop:Bool}{p left L D L' D':Nat}(h:Lk b at_ most cop p (left+1) L D) (hL:L≤L') (hm:L'≤most) (hb:(L'=0∧D'=0)∨Cop b at_ L' D') (h4:four b at_ (at_-p)→4≤L') :
  Lk b at_ most cop (pv b (zM b p) p) left L' D':=by
 have hk:=h.keyed p rfl;have hbd:=XT b (zM b p) p;have hh:=h.high;refine ⟨hbd.1,by omega,hm,hb,fun q hq=>by rw [zgB hq,hk],fun hc d hf=>?_,fun hc=>?_⟩
 ·rcases h.look hc d hf with h1 | h1
  ·by_cases e:at_-d=p
   ·right
    apply h4;have h2:=hf.2.2.1;rw [show at_-p=d by omega];exact hf
   ·left
    exact zeM (by omega) (by rw [UN hf,hk])
  ·exact .inr (by omega)
 ·have:=h.many hc
  omega
theorem Lk.done {b:List Nat}{at_ most:Nat}{cop:Bool}{pl:Int}{left L D:Nat}(h:Lk b at_ most cop pl left L D) (hc:cop=false) (hm:most=min 258 (b.length-at_)) (ha:at_≤32768)
  (hend:left=0∨most≤L∨pl = -1):L≤3→∀ d,¬four b at_ d:=by
 intro hL d hf;rcases h.look hc d hf with h1 | h1
 ·rcases hend with e | e | e
  ·have:=h.many hc
   omega
  ·have:=hf.1
   omega
  ·omega
 ·omega
theorem zcW {b:List Nat}{at_ p L:Nat}(h:four b at_ (at_-p)) (hp:p<at_) (hne:b.getD (p+L) 0≠b.getD (at_+L) 0):4≤L:=by
 refine Decidable.byContradiction fun hL=>hne ?_
 have:=h.2.2.2 L (by omega);rw [this,show at_+L-(at_-p)=p+L by omega]
theorem zdl {b:List Nat}{at_ p most:Nat}(h:four b at_ (at_-p)) (hm:4≤most):4≤same b at_ (at_-p) most:=
 zis b _ most at_ 4 hm h.1 h.2.1 h.2.2.1 h.2.2.2
theorem UL {b:List Nat}{at_ p most:Nat}(hp:p<at_) (ha:at_≤32768) (hl:at_≤b.length):Cop b at_ (same b at_ (at_-p) most) (at_-p):=
 ⟨by omega,by omega,by omega,zf6 b _ most at_ hl,fun k hk=>(Xr b _ most at_ k hk).1⟩
def xC (b:List Nat) (at_ most:Nat):Nat→Int→Nat→Nat→Nat × Nat
 | 0,_,L,D=>(L,D)
 | left+1,pl,L,D=>
  if L<most∧pl ≠ -1 then
   if b.getD (pl.toNat+L) 0=b.getD (at_+L) 0∧L<same b at_ (at_-pl.toNat) most then xC b at_ most left (pv b (zM b pl.toNat) pl.toNat) (same b at_ (at_-pl.toNat) most) (at_-pl.toNat)
   else xC b at_ most left (pv b (zM b pl.toNat) pl.toNat) L D
  else (L,D)
theorem KL {b:List Nat}{at_ most left L D:Nat}{pl:Int}(h:left=0∨most≤L∨pl = -1):xC b at_ most left pl L D=(L,D):=by
 cases left with
 | zero=>rfl
 | succ n=>rw [xC,if_neg (by omega)]
theorem zae {b:List Nat}{at_ most left p L D:Nat}(hL:L<most) (he:b.getD (p+L) 0=b.getD (at_+L) 0) (hn:L<same b at_ (at_-p) most) :
  xC b at_ most (left+1) p L D=xC b at_ most left (pv b (zM b p) p) (same b at_ (at_-p) most) (at_-p):=by
 rw [xC,if_pos ⟨hL,by omega⟩,Int.toNat_natCast,if_pos ⟨he,hn⟩]
theorem zcU {b:List Nat}{at_ most left p L D:Nat}(hL:L<most) (h:¬(b.getD (p+L) 0=b.getD (at_+L) 0∧L<same b at_ (at_-p) most)) :
  xC b at_ most (left+1) p L D=xC b at_ most left (pv b (zM b p) p) L D:=by
 rw [xC,if_pos ⟨hL,by omega⟩,Int.toNat_natCast,if_neg h]
structure Sof (b:List Nat) (at_:Nat) (r:List Tok) (cop:Bool):Prop where
 ex:ex r []=some (b.take at_)
 le:at_≤b.length
 lit:∀ t∈r,t.lit<256
 yes:cop=true→∃ t∈r,t.len≠0
 no:cop=false→∀ a,a<at_→∀ d,¬four b a d
structure Told (b:List Nat) (at_:Nat) (cop:Bool) (t:Tok):Prop where
 is:t=⟨b.getD at_ 0,0,0⟩∨(t.lit=0∧3≤t.len∧t.len≤258∧Cop b at_ t.len t.dist)
 no:cop=false→t.len=0→∀ d,¬four b at_ d
theorem Sof.start (b:List Nat):Sof b 0 [] false:=⟨rfl,Nat.zero_le _,(fun t h=>by cases h),(fun h=>by cases h),(fun _ a h=>by omega)⟩
theorem Told.lit {b:List Nat}{at_:Nat}{cop:Bool}(hc:cop=true):Told b at_ cop ⟨b.getD at_ 0,0,0⟩:=⟨.inl rfl,fun h=>by rw [hc] at h;cases h⟩
theorem Told.tells {b:List Nat}{at_:Nat}{cop:Bool}{t:Tok}(h:Told b at_ cop t) (ha:at_<b.length):at_+M.tells t≤b.length∧M.tells t≤258:=by
 rcases h.is with rfl | ⟨_,h3,h4,h5⟩
 ·unfold M.tells;simp only;omega
 ·have:=h5.2.2.2.1
  unfold M.tells;omega
theorem Sof.step {b:List Nat}{at_:Nat}{r:List Tok}{cop:Bool}{t:Tok}(hb:∀ x∈b,x<256) (h:Sof b at_ r cop) (k:Told b at_ cop t) (ha:at_<b.length):Sof b (at_+M.tells t) (r++[t]) (cop || decide (0<t.len)):=by
 have hl:(b.take at_).length=at_:=by rw [List.length_take];omega
 refine ⟨?_,(k.tells ha).1,?_,?_,?_⟩
 ·rw [zbX h.ex,hl]
  rcases k.is with rfl | ⟨h0,h3,h4,h5⟩
  ·rw [if_pos ⟨.inl ⟨rfl,rfl⟩,Nat.zero_le _⟩,zb5 b at_ ha];rfl
  ·obtain ⟨a1,l1,d1⟩:=t
   simp only at h0 h3 h4 h5;subst h0;rw [if_pos ⟨.inr ⟨h3,h4,h5.1,h5.2.2.1,rfl⟩,h5.2.1⟩,vZ b at_ d1 l1 (by omega) h5.2.2.2.1 h5.1 h5.2.1 h5.2.2.2.2];unfold M.tells;simp only;rw [Nat.max_eq_left (by omega)]
 ·intro u hu
  rcases List.mem_append.1 hu with hu | hu
  ·exact h.lit u hu
  ·obtain rfl:=List.mem_singleton.1 hu
   rcases k.is with e | ⟨h0,_⟩
   ·rw [e]
    simp only;rw [List.getD_eq_getElem?_getD];cases hi:b[at_]? with
    | none=>simp
    | some x=>simpa using hb x (List.mem_of_getElem? hi)
   ·rw [h0];omega
 ·intro hc
  rcases Bool.or_eq_true _ _ ▸ hc with hc | hc
  ·obtain ⟨u,hu,h0⟩:=h.yes hc
   exact ⟨u,List.mem_append_left _ hu,h0⟩
  ·exact ⟨t,List.mem_append_right _ (List.mem_singleton.2 rfl),by have:=of_decide_eq_true hc;omega⟩
 ·intro hc a hla d
  obtain ⟨h1,h2⟩:=Bool.or_eq_false_iff.1 hc;have h0:t.len=0:=by have:=of_decide_eq_false h2;omega
  have ht:M.tells t=1:=by unfold M.tells;rw [h0];rfl
  rw [ht] at hla;by_cases e:a<at_
  ·exact h.no h1 a e d
  ·obtain rfl:a=at_:=by omega
   exact k.no h1 h0 d
theorem Sof.done {b:List Nat}{at_:Nat}{r:List Tok}{cop:Bool}(h:Sof b at_ r cop) (ha:b.length≤at_):M.ex r []=some b∧((∃ t∈r,t.len≠0)∨zbk b):=by
 obtain rfl:at_=b.length:=Nat.le_antisymm h.le ha;refine ⟨by have:=h.ex;rwa [List.take_length] at this,?_⟩;cases cop with
 | true=>exact .inl (h.yes rfl)
 | false=>
  refine .inr fun a d _ hf=>h.no rfl a ?_ d hf
  have:=hf.1;omega
end Go.Proofs.YtacpfpghokcdlaaGreatDoor.V.M
namespace Go.Proofs.YtacpfpghokcdlaaGreatDoor.V
set_option maxRecDepth 100000
section
open Go.Lib renaming hid → J
open Go.RowKit Go.Maps
theorem zjG:Keyed prog 105:=int_keyed underlying105
theorem zlE (w:World):(zeroValue 3).run prog w=.ok (.int .i64 0) w:=by kernel_rfl
theorem wf_u32 {k:Nat}(h:k<16777216):(Lit.int .u32 (k:Int)).wf=true:=WalkArith.wf_u32 ⟨by omega,by omega⟩
theorem zfF {b:List Nat}(h:Bs b) (i:Nat):b.getD i 0<256:=by
 rw [List.getD_eq_getElem?_getD];cases hi:b[i]? with
 | none=>simp
 | some x=>simpa using h x (List.mem_of_getElem? hi)
structure Mof (bs:List Nat) (n:Nat) (D:DataW Unit):Prop where
 map:IsMap D
 has:∀ k:Nat,Maps.has D (.int .u32 (k:Int))=(M.qK bs k n).isSome
 at_:∀ k:Nat,D.atKey (.int .u32 (k:Int)) (.lit (.int .i64 0))=.lit (.int .i64 (((M.qK bs k n).getD 0:Nat):Int))
theorem Mof.start (bs:List Nat):Mof bs 0 (.map []):=⟨isMap_empty,fun _=>rfl,fun _=>rfl⟩
theorem Mof.step {bs:List Nat}{n:Nat}{D:DataW Unit}(h:Mof bs n D):Mof bs (n+1) (D.put (.int .u32 (M.zM bs n:Nat)) (.lit (.int .i64 (n:Nat)))):=by
 refine ⟨h.map.put _ _,fun k=>?_,fun k=>?_⟩
 ·by_cases e:M.zM bs n=k
  ·subst e
   rw [has_put_same h.map (show WideAt.IsKeyLit (.int .u32 _) from trivial),M.qK,if_pos rfl];rfl
  ·rw [has_put_other (by intro h';cases h';exact e rfl),M.qK,if_neg e,h.has]
 ·by_cases e:M.zM bs n=k
  ·subst e
   rw [atKey_put_same h.map (show WideAt.IsKeyLit (.int .u32 _) from trivial),M.qK,if_pos rfl];rfl
  ·rw [atKey_put_other (by intro h';cases h';exact e rfl),M.qK,if_neg e,h.at_]
theorem zkL {w:World}{v:Value}{bs:List Nat}(h:zi w v bs):∀ k,v.ownBlock=some k→bs≠[]→k<w.heap.size:=fun k hk hn=>by
 obtain ⟨b,off,c,rfl,_,hc⟩:=h.at (List.length_pos_iff.2 hn);have:=World.block_lt_of_cell? w _ (hc 0 (List.length_pos_iff.2 hn));have hk':b=k:=by simpa [Value.ownBlock] using hk
 subst hk';exact this
theorem zgh {S:Nat→Prop}{w w':World}{B:Nat}{v:Value}{bs:List Nat}(h:zi w v bs) (hf:∀ k,v.ownBlock=some k→bs≠[]→k<B) (ht:Touch S w w') (hS:∀ k,S k→B≤k):zi w' v bs:=by
 by_cases e:bs=[]
 ·subst e
  rcases h with h | ⟨ad,c,h1,h2,_⟩
  ·exact .inl h
  ·exact .inr ⟨ad,c,h1,h2,fun j u hu=>by simp [u8s] at hu⟩
 ·exact h.touch ht fun k hk hs=>by have:=hf k hk e;have:=hS k hs;omega
structure Fin (w:World) (B p mb ab pl wt:Nat) (bv:Value) (bs:List Nat) (cop:Bool) (n:Nat):Prop where
 blk:Blk w p 138 #[.int .i64 (pl:Nat),.int .i64 (wt:Nat),bv,.map (some mb),.slice (some ⟨ab,0,none⟩) bs.length bs.length,.bool cop]
 by_:zi w bv bs
 map:∃ D:DataW Unit,w.ownsMap prog 105 (plainElem prog 3) mb n D∧Mof bs n D
 ring:∃ g:Nat→Int,Blk w ab 3 (va bs.length fun i => .int .i64 (g i))∧∀ q,q<n→g q=M.pv bs (M.zM bs q) q
 far:(∀ k,bv.ownBlock=some k→bs≠[]→k<B)∧B≤p∧B≤mb∧B≤ab∧p≠ab∧p≠mb∧ab≠mb
 nums:pl≤1000∧wt≤1000
theorem Fin.grow {w w':World}{B p mb ab pl wt:Nat}{bv:Value}{bs:List Nat}{cop:Bool}{n:Nat}(h:Fin w B p mb ab pl wt bv bs cop n) (hb:Below w.heap.size w w'):Fin w' B p mb ab pl wt bv bs cop n:=by
 obtain ⟨D,hD,hM⟩:=h.map;obtain ⟨g,hg,hv⟩:=h.ring;refine ⟨h.blk.below hb,Xt h.by_ hb,⟨D,?_,hM⟩,⟨g,hg.below hb,hv⟩,h.far,h.nums⟩;obtain ⟨es,clock,hk,F,hs,hD⟩:=hD;exact ⟨es,clock,(hb.block mb (Array.getElem?_eq_some_iff.1 hk).1).trans hk,F,hs,hD⟩
theorem Fin.drewN {w:World}{B p mb ab pl wt:Nat}{bv:Value}{bs:List Nat}{cop:Bool}{n:Nat}(h:Fin w B p mb ab pl wt bv bs cop n) (q:Nat):Fin (w.drewN q) B p mb ab pl wt bv bs cop n:=h.grow (below_drewN (Below.refl _ _) q)
theorem or3 (x y z:Nat) (hx:x<256) (hy:y<256) (hz:z<256) :
  bits BinOp.or IntKind.u32 (bits BinOp.or IntKind.u32 (x:Int) ((y:Int)*256)) ((z:Int)*65536)=((x+256*y+65536*z:Nat):Int):=by
 have h1:bits BinOp.or IntKind.u32 (x:Int) ((y:Int)*256)=(x:Int)+(y:Int)*256:=Go.u32_or8 _ _ (by omega) (by omega) (by omega) (by omega) (by omega);have h2:bits BinOp.or IntKind.u32 ((x:Int)+(y:Int)*256) ((z:Int)*65536)=(x:Int)+(y:Int)*256+(z:Int)*65536:=Go.u32_or16 _ _ (by omega) (by omega) (by omega) (by omega) (by omega);rw [h1,h2];omega
set_option maxHeartbeats 1600000 in
theorem zbK (p mb ab pl wt:Nat) (ao:Option Addr) (c:Nat) (bs:List Nat) (cop:Bool) (n B at_:Nat) (w:World) (h:Fin w B p mb ab pl wt (.slice ao bs.length c) bs cop n) (hb:Bs bs) (hl:bs.length≤30000) (ha:at_+3≤bs.length) :
  Calls prog 158 #[.pointer (some ⟨p,0,none⟩),.int .i64 at_] w fun e w'=>e=.returned (.int .u32 (M.zM bs at_:Nat))∧∃ q,w'=w.drewN q:=by
 have c2:=(h.blk.cell 2).trans (show _=some (Value.slice ao bs.length c) from rfl);obtain ⟨b1,off,rfl,g0⟩:=xd h.by_ at_ (by omega);obtain ⟨b2,off2,he,g1⟩:=xd h.by_ (at_+1) (by omega);simp only [Option.some.injEq,Addr.mk.injEq,and_true] at he;obtain ⟨rfl,rfl⟩:=he;obtain ⟨b2,off2,he,g2⟩:=xd h.by_ (at_+2) (by omega);simp only [Option.some.injEq,Addr.mk.injEq,and_true] at he;obtain ⟨rfl,rfl⟩:=he;obtain ⟨x,hx⟩:=exq (bs.getD at_ 0);obtain ⟨y,hy⟩:=exq (bs.getD (at_+1) 0);obtain ⟨z,hz⟩:=exq (bs.getD (at_+2) 0);have hx8:x<256:=by rw [hx];exact zfF hb _
 have hy8:y<256:=by rw [hy];exact zfF hb _
 have hz8:z<256:=by rw [hz];exact zfF hb _
 rw [←hx] at g0;rw [←hy] at g1;rw [←hz] at g2;obtain ⟨L,hL⟩:=exq (bs.length);have HK:Hid (M.zM bs at_=x+256*y+65536*z):=J (by unfold M.zM;rw [hx,hy,hz]);obtain ⟨K,hK⟩:=exq (M.zM bs at_);rw [←hK] at HK ⊢;rw [←hL] at hl ha c2;have e1:IntKind.i64.wrap ((at_:Int)+1)=(at_:Int)+1:=by rw [IntKind.wrap_i64];omega
 have e2:IntKind.i64.wrap ((at_:Int)+2)=(at_:Int)+2:=by rw [IntKind.wrap_i64];omega
 have l0:(at_:Int)<L:=by omega
 have l1:(at_:Int)+1<L:=by omega
 have l2:(at_:Int)+2<L:=by omega
 have t1:((at_:Int)+1).toNat=at_+1:=by omega
 have t2:((at_:Int)+2).toNat=at_+2:=by omega
 have s1:(0:Int)≤(at_:Int)+1:=by omega
 have s2:(0:Int)≤(at_:Int)+2:=by omega
 clear h hx hy hz hL hb hK;go_enter func158,ntmps158;go_wp2;go_quiet (fail)
 go_wp2;have ho:=or3 x y z hx8 hy8 hz8;rw [ho,←HK.out];go_ret;exact ⟨rfl,_,rfl⟩
theorem Kz (p mb ab pl wt:Nat) (v:Value) (bs:List Nat) (cop:Bool) (n B at_:Nat) (w:World) (h:Fin w B p mb ab pl wt v bs cop n) (hb:Bs bs) (hl:bs.length≤30000) (ha:at_+3≤bs.length) :
  Calls prog 158 #[.pointer (some ⟨p,0,none⟩),.int .i64 at_] w fun e w'=>e=.returned (.int .u32 (M.zM bs at_:Nat))∧∃ q,w'=w.drewN q:=by
 obtain ⟨ao,c,rfl⟩:=qp h.by_;exact zbK p mb ab pl wt ao c bs cop n B at_ w h hb hl ha
def la (bs:List Nat) (at_:Nat):Int:=if at_+3≤bs.length then M.pv bs (M.zM bs at_) at_ else -1
theorem Fin.look {w:World}{B p mb ab pl wt:Nat}{bv:Value}{bs:List Nat}{cop:Bool}{n:Nat}(h:Fin w B p mb ab pl wt bv bs cop n) (k:Nat) (hk:k<16777216) :
  ∃ x:Nat,(∀ q,(Instr.lookup 136 (.map (some mb)) (.int .u32 (k:Nat)) true).run prog (w.drewN q)=.ok (.tuple #[.int .i64 (x:Nat),.bool (M.qK bs k n).isSome]) (w.drewN q))∧((M.qK bs k n).isSome=true→((x:Nat):Int)=M.pv bs k n)∧((M.qK bs k n).isSome=false→M.pv bs k n = -1):=by
 refine ⟨(M.qK bs k n).getD 0,fun q=>?_,fun h=>?_,fun h=>?_⟩
 ·obtain ⟨D,hD,hM⟩:=(h.drewN q).map
  obtain ⟨v,ps,hrun,hv⟩:=hD.look_ok zjG underlying136 (zlE _) (plainElem_int underlying3 (by decide)) (keyOf_int_mk underlying105 (wf_u32 hk));rw [hM.at_ k] at hv;obtain ⟨c,rfl,hc,_⟩:=plainElem_int_inv underlying3 hv;simp only [Prod.mk.injEq,DataW.lit.injEq,Lit.int.injEq,true_and] at hc;rw [hrun,hM.has k,hc.1]
 ·unfold M.pv
  cases hl:M.qK bs k n with
  | none=>rw [hl] at h;cases h
  | some p=>rfl
 ·unfold M.pv
  cases hl:M.qK bs k n with
  | none=>rfl
  | some p=>rw [hl] at h;cases h
set_option maxHeartbeats 1600000 in
theorem Jm (p mb ab pl wt:Nat) (v:Value) (bs:List Nat) (cop:Bool) (B at_:Nat) (w:World) (h:at_+3≤bs.length→Fin w B p mb ab pl wt v bs cop at_) (hv:w.cell? ⟨p,2,none⟩=some v) (hby:zi w v bs) (hb:Bs bs) (hl:bs.length≤30000) (ha:at_≤bs.length) :
  Calls prog 154 #[.pointer (some ⟨p,0,none⟩),.int .i64 at_] w fun e w'=>e=.returned (.int .i64 (la bs at_))∧∃ q,w'=w.drewN q:=by
 obtain ⟨ao,c,rfl⟩:=qp hby
 by_cases h3:at_+3≤bs.length
 ·have h:=h h3
  obtain ⟨x,hx,hs,hn⟩:=h.look (M.zM bs at_) (M.zbZ hb at_);rw [show la bs at_=M.pv bs (M.zM bs at_) at_ from if_pos h3];have HT:=J fun q=>Kz p mb ab pl wt _ bs cop at_ B at_ (w.drewN q) (h.drewN q) hb hl h3
  have c3:=(h.blk.cell 3).trans (show _=some (Value.map (some mb)) from rfl);obtain ⟨L,hL⟩:=exq (bs.length);obtain ⟨K,hK⟩:=exq (M.zM bs at_);obtain ⟨y,hy⟩:=exq (M.pv bs (M.zM bs at_) at_);obtain ⟨ok,hok⟩:=exq ((M.qK bs (M.zM bs at_) at_).isSome);rw [←hok,←hy] at hs hn;rw [←hok] at hx;rw [←hK] at HT hx;rw [←hy];rw [←hL] at hl h3 hv;have d1:decide ((L:Int)<(at_:Int)+3)=false:=by simp;omega
  have d2:decide (L<at_+3)=false:=by simp;omega
  clear h hb hok hy hK hL hby
  cases ok with
  | true=>
   obtain rfl:y=(x:Int):=(hs rfl).symm;clear hs hn;go_enter func154,ntmps154;go_wp2;go_quiet (first | (go_at_call 158;exact Calls.quiet_of (HT.out _)) | fail)
   go_wp2;go_ret;exact ⟨rfl,_,rfl⟩
  | false=>
   obtain rfl:y = -1:=hn rfl;clear hs hn;go_enter func154,ntmps154;go_wp2;go_quiet (first | (go_at_call 158;exact Calls.quiet_of (HT.out _)) | fail)
   go_wp2;go_ret;exact ⟨rfl,_,rfl⟩
 ·rw [show la bs at_ = -1 from if_neg h3]
  obtain ⟨L,hL⟩:=exq (bs.length);rw [←hL] at hl h3 hv ha;have d1:(L:Int)<(at_:Int)+3:=by omega
  have d2:L<at_+3:=by omega
  clear h hb hL hby h3;go_enter func154,ntmps154;go_wp2;go_ret;exact ⟨rfl,0,rfl⟩
theorem yy (p pl:Nat) (cop:Bool) (w:World) (c0:w.cell? ⟨p,0,none⟩=some (.int .i64 (pl:Nat))) (c5:w.cell? ⟨p,5,none⟩=some (.bool cop)) :
  Calls prog 155 #[.pointer (some ⟨p,0,none⟩)] w fun e w'=>e=.returned (.int .i64 ((if cop then pl else 32768:Nat):Int))∧w'=w:=by
 cases cop with
 | true=>
  go_enter func155,ntmps155;go_wp2;go_ret;exact ⟨rfl,rfl⟩
 | false=>
  go_enter func155,ntmps155;go_wp2;go_ret;exact ⟨rfl,rfl⟩
def qU (cop:Bool) (L D:Nat):Bool:=decide (3<L) || (decide (L=3) && cop && decide (D≤4096))
theorem Ui (p l L D:Nat) (cop:Bool) (w:World) (c5:w.cell? ⟨p,5,none⟩=some (.bool cop)) (hp:p<w.heap.size) (hL:L≤1000000) (hD:D≤1000000) :
  Calls prog 157 #[.pointer (some ⟨p,0,none⟩),tv ⟨l,L,D⟩] w fun e w'=>e=.returned (.bool (qU cop L D))∧Below w.heap.size w w':=by
 have B1:=J ((Below.refl w.heap.size w).alloc (Nat.le_refl _) (.cells #[.int .u8 (l:Nat),.int .i64 (L:Nat),.int .i64 (D:Nat)] 128));have fin:∀ (c:Bool),qU cop L D=c→qU cop L D=c:=fun c hc=>hc
 have HF:=J fin;have HP:=J (show (w.alloc (.cells #[.int .u8 (l:Nat),.int .i64 (L:Nat),.int .i64 (D:Nat)] 128)).cell? ⟨p,5,none⟩=some (.bool cop) from (B1.out.cell hp).trans c5);clear fin;by_cases c1:3<L
 ·have d1:(3:Int)<L:=by omega
  rw [HF.out true (by simp [qU,c1])];clear HF c1;go_enter func157,ntmps157;go_wp2;go_ret;exact ⟨rfl,B1.out⟩
 ·have d1:decide ((3:Int)<L)=false:=by simp;omega
  have d1':decide (3<L)=false:=by simp;omega
  by_cases c2:L=3
  ·subst c2
   cases cop with
   | true=>
    by_cases c3:D≤4096
    ·have d3:(D:Int)≤4096:=by omega
     rw [HF.out true (by simp [qU,c3])];have c5':=HP.out;clear HF c1 c3;go_enter func157,ntmps157;go_wp2;go_ret;exact ⟨rfl,B1.out⟩
    ·have d3:decide ((D:Int)≤4096)=false:=by simp;omega
     have d3':decide (D≤4096)=false:=by simp;omega
     rw [HF.out false (by simp [qU];omega)];have c5':=HP.out;clear HF c1 c3;go_enter func157,ntmps157;go_wp2;go_ret;exact ⟨rfl,B1.out⟩
   | false=>
    rw [HF.out false (by simp [qU])];have c5':=HP.out;clear HF c1;go_enter func157,ntmps157;go_wp2;go_ret;exact ⟨rfl,B1.out⟩
  ·have d2:((L:Int) == 3)=false:=by simp;omega
   rw [HF.out false (by simp [qU];omega)];clear HF c1 c2;go_enter func157,ntmps157;go_wp2;go_ret;exact ⟨rfl,B1.out⟩
end
end Go.Proofs.YtacpfpghokcdlaaGreatDoor.V
