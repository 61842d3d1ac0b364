/- Part 10. -/
import Derived.Test.YtacpfpghokcdlaaGreatDoorXA9
namespace Go.Proofs.YtacpfpghokcdlaaGreatDoor
set_option maxRecDepth 100000
theorem val_app (a b:List (Nat × Nat)):val (a++b)=val a+2^wid a*val b:=by
 induction a with
 | nil=>simp [val,wid]
 | cons c a ih=>simp only [List.cons_append,val,wid,ih];rw [Nat.pow_add,Nat.mul_add,Nat.mul_assoc,Nat.add_assoc]
theorem val_one (x k:Nat):val [(x,k)]=x∧wid [(x,k)]=k:=by simp [val,wid]
def Fitp (ps:List (Nat × Nat)):Prop:=∀ c∈ps,c.1<2^c.2
theorem Fitp.app {a b:List (Nat × Nat)} (h:Fitp a) (k:Fitp b):Fitp (a++b):=fun c hc=>by
 rcases List.mem_append.1 hc with h1 | h1
 ·exact h c h1
 ·exact k c h1
theorem val_lt {ps:List (Nat × Nat)} (h:Fitp ps):val ps<2^wid ps:=by
 induction ps with
 | nil=>simp [val,wid]
 | cons c r ih=>
  have h1:=h c (List.mem_cons_self ..)
  have h2:=ih fun x hx=>h x (List.mem_cons_of_mem _ hx)
  simp only [val,wid]
  rw [Nat.pow_add]
  have h3:2^c.2*(val r+1)≤2^c.2*2^wid r:=Nat.mul_le_mul_left _ h2
  rw [Nat.mul_add] at h3
  omega
def Holds8 (out:List Nat) (ps:List (Nat × Nat)):Prop:=Bs out∧WI out (wid ps)∧num out=val ps
theorem Holds8.str {out:List Nat} {ps:List (Nat × Nat)} (h:Holds8 out ps):Str out 0 (ps++[]):=by
 rw [List.append_nil]
 exact ⟨⟨0,by rw [h.2.2];simp⟩,by have:=h.2.1.lo;omega⟩
inductive Steps (bs:List Nat) (lim:Nat) (s:Sta):Sta→Prop where
 | refl:Steps bs lim s s
 | step {u t:Sta} (h:Steps bs lim s u) (k:blk1 bs lim () u = .ok (false,()) t):Steps bs lim s t
theorem Steps.chain {bs:List Nat} {lim:Nat} {s u t:Sta} (h:Steps bs lim s u) (k:Chain bs lim u t):Chain bs lim s t:=by
 induction h with
 | refl=>exact k
 | step h1 h2 ih=>exact ih (.more h2 k)
def BlkP (lim pos:Nat) (o:List Nat) (last:Bool) (ps:List (Nat × Nat)) (o':List Nat):Prop:=
 ∀ bs cs s,Bs bs→s.at_=pos→s.out=o→Str bs pos (ps++cs)→∃ st,blk1 bs lim () s = .ok (last,()) ⟨pos+wid ps,o',st,s.blocks+1⟩∧Str bs (pos+wid ps) cs
def NL (lim:Nat) (P:List (Nat × Nat)) (o:List Nat) (k:Nat):Prop:=
 ∀ bs cs,Bs bs→Str bs 0 (P++cs)→∃ st,Steps bs lim st0 ⟨wid P,o,st,k⟩∧Str bs (wid P) cs
theorem NL.nil (lim:Nat):NL lim [] [] 0:=fun bs cs _ h=>⟨0,.refl,by simpa [wid] using h⟩
theorem NL.snoc {lim k:Nat} {P ps:List (Nat × Nat)} {o o':List Nat} (h:NL lim P o k) (b:BlkP lim (wid P) o false ps o'):NL lim (P++ps) o' (k+1):=fun bs cs hb hs=>by
 rw [List.append_assoc] at hs
 obtain ⟨st,h1,h2⟩:=h bs (ps++cs) hb hs
 obtain ⟨st2,h3,h4⟩:=b bs cs ⟨wid P,o,st,k⟩ hb rfl rfl h2
 rw [wid_app]
 exact ⟨st2,h1.step h3,h4⟩
theorem NL.done {lim k:Nat} {P ps:List (Nat × Nat)} {o o' out:List Nat} (h:NL lim P o k) (b:BlkP lim (wid P) o true ps o') (ho:Holds8 out (P++ps)):∃ st,infl out lim = .ok () ⟨wid (P++ps),o',st,k+1⟩:=by
 have hs:=ho.str
 rw [List.append_assoc] at hs
 obtain ⟨st,h1,h2⟩:=h out (ps++[]) ho.1 hs
 obtain ⟨st2,h3,h4⟩:=b out [] ⟨wid P,o,st,k⟩ ho.1 rfl rfl h2
 rw [wid_app]
 exact ⟨st2,(h1.chain (.last h3)).infl ho.1⟩
def stoP (pos:Nat) (b:List Nat) (last:Bool):List (Nat × Nat):=
 (if last then 1 else 0,1)::(0,2)::(0,up8 (pos+3)-(pos+3))::(b.length,16)::(65535-b.length,16)::b.map fun x=>(x,8)
theorem wid_bytes (b:List Nat):wid (b.map fun x=>(x,8))=8*b.length:=by
 induction b with
 | nil=>rfl
 | cons x b ih=>simp only [List.map_cons,wid,ih,List.length_cons];omega
theorem val_bytes (b:List Nat):val (b.map fun x=>(x,8))=num b:=by
 induction b with
 | nil=>rfl
 | cons x b ih=>simp only [List.map_cons,val,num,ih]
theorem up8_ge (n:Nat):n≤up8 n∧up8 n<n+8∧up8 n%8=0:=by unfold up8;omega
theorem stoP_wid (pos:Nat) (b:List Nat) (last:Bool):pos+wid (stoP pos b last)=up8 (pos+3)+32+8*b.length:=by
 have:=up8_ge (pos+3)
 simp only [stoP,wid,wid_bytes]
 omega
theorem stoP_fit (pos:Nat) {b:List Nat} (hb:Bs b) (hl:b.length≤65535) (last:Bool):Fitp (stoP pos b last):=by
 intro c hc
 simp only [stoP,List.mem_cons,List.mem_map] at hc
 rcases hc with rfl | rfl | rfl | rfl | rfl | ⟨x,hx,rfl⟩
 ·show (if last then 1 else 0)<2^1
  split <;> omega
 ·decide
 ·exact Nat.two_pow_pos _
 ·show b.length<2^16
  omega
 ·show 65535-b.length<2^16
  omega
 ·exact hb x hx
theorem bytes_str {bs:List Nat} (hbs:Bs bs) (cs:List (Nat × Nat)):∀ (b:List Nat) (q:Nat),Bs b→Str bs (8*q) (b.map (fun x=>(x,8))++cs)→(bs.drop q).take b.length=b∧Str bs (8*(q+b.length)) cs:=by
 intro b
 induction b with
 | nil=>intro q _ h;exact ⟨by simp,by simpa using h⟩
 | cons x b ih=>
  intro q hb h
  have hx:x<256:=hb x (List.mem_cons_self ..)
  obtain ⟨h1,h2,h3⟩:=h.next (X:=x) (k:=8) (cs:=b.map (fun x=>(x,8))++cs) hx
  rw [show 8*q+8=8*(q+1) by omega] at h3
  obtain ⟨h4,h5⟩:=ih (q+1) (fun y hy=>hb y (List.mem_cons_of_mem _ hy)) h3
  have hq:q<bs.length:=by omega
  have hg:bs[q]=x:=by
   have e:=num_byte hbs q
   unfold pk at h1
   rw [show 2^(8*q)=256^q by rw [Nat.pow_mul]] at h1
   have e2:bs.getD q 0=bs[q]:=by simp [List.getD,hq]
   rw [←e2,e]
   exact h1
  refine ⟨?_,by rw [List.length_cons,show q+(b.length+1)=q+1+b.length by omega];exact h5⟩
  rw [List.drop_eq_getElem_cons hq,List.length_cons,List.take_succ_cons,hg,h4]
theorem blk_stored {lim pos:Nat} {o b:List Nat} (last:Bool) (hb:Bs b) (hl:b.length≤65535) (hlim:o.length+b.length≤lim):BlkP lim pos o last (stoP pos b last) (o++b):=by
 intro bs cs s hbs hat ho hs
 subst hat ho
 obtain ⟨hL,hLe⟩:∃ hL:Nat,hL=if last then 1 else 0:=⟨_,rfl⟩
 have hL2:hL<2^1:=by rw [hLe];split <;> omega
 have hu:=up8_ge (s.at_+3)
 simp only [stoP,List.cons_append] at hs
 rw [←hLe] at hs
 obtain ⟨r1,S1⟩:=rdN_str (s:=s) hs hL2
 obtain ⟨r2,S2⟩:=rdN_str (s:={ s with at_:=s.at_+1 }) S1 (by decide)
 obtain ⟨_,_,S3⟩:=S2.next (Nat.two_pow_pos _)
 simp only at S3
 rw [show s.at_+1+2+(up8 (s.at_+3)-(s.at_+3))=up8 (s.at_+3) by omega] at S3
 obtain ⟨r4,S4⟩:=rdN_str (s:={ s with at_:=up8 (s.at_+3) }) S3 (by omega)
 obtain ⟨r5,S5⟩:=rdN_str (s:={ s with at_:=up8 (s.at_+3)+16 }) S4 (by omega)
 simp only at S5
 obtain ⟨q,hq⟩:∃ q,up8 (s.at_+3)+16+16=8*q:=⟨(up8 (s.at_+3)+32)/8,by omega⟩
 rw [hq] at S5
 have hin:=S5.len
 rw [wid_app,wid_bytes] at hin
 obtain ⟨h4,h5⟩:=bytes_str hbs cs b q hb S5
 refine ⟨s.steps+b.length,?_,?_⟩
 ·unfold blk1 blk
  rw [r1,Res.bind_ok,r2,Res.bind_ok,if_pos rfl]
  unfold stored
  simp only
  rw [show s.at_+1+2=s.at_+3 by omega,r4,Res.bind_ok,r5,Res.bind_ok,if_neg (by simp)]
  simp only
  rw [hq,if_neg (by omega),if_neg (by omega),Res.bind_ok,show 8*q/8=q by omega,h4]
  have hw:=stoP_wid s.at_ b last
  have e1:8*q+8*b.length=s.at_+wid (stoP s.at_ b last):=by omega
  rw [e1,hLe]
  cases last <;> rfl
 ·rw [stoP_wid,show up8 (s.at_+3)+32+8*b.length=8*(q+b.length) by omega]
  exact h5
end Go.Proofs.YtacpfpghokcdlaaGreatDoor
namespace Go.Proofs.YtacpfpghokcdlaaGreatDoor.Y
set_option maxRecDepth 100000
def pre (l:List Nat) (k:Nat):Nat:=(l.take k).sum
theorem pre_nil (k:Nat):pre [] k=0:=by simp [pre]
theorem pre_cons (a:Nat) (l:List Nat) (k:Nat):pre (a::l) (k+1)=a+pre l k:=by simp [pre]
theorem pre_succ (l:List Nat) (k:Nat) (h:k<l.length):pre l (k+1)=pre l k+l.getD k 0:=by
 induction l generalizing k with
 | nil=>simp at h
 | cons a l ih=>
  cases k with
  | zero=>simp [pre]
  | succ k=>
   rw [pre_cons,pre_cons,ih k (by simpa using h)]
   simp only [List.getD_cons_succ]
   omega
def Up (l:List Nat):Prop:=l.Pairwise (· ≤ ·)
theorem Up.tail {a:Nat} {l:List Nat} (h:Up (a::l)):Up l:=(List.pairwise_cons.1 h).2
theorem Up.getD {l:List Nat} (h:Up l) {i j:Nat} (hij:i≤j) (hj:j<l.length):l.getD i 0≤l.getD j 0:=by
 by_cases e:i=j
 ·subst e;exact Nat.le_refl _
 ·have:=List.pairwise_iff_getElem.1 h i j (by omega) hj (by omega)
  simpa [List.getD,show i<l.length by omega,hj] using this
def pairs:List Nat→List Nat
 | a::b::t=>(a+b)::pairs t
 | _=>[]
theorem pairs_len:∀ l:List Nat,(pairs l).length=l.length/2
 | []=>rfl
 | [_]=>by simp [pairs]
 | a::b::t=>by simp [pairs,pairs_len t];omega
theorem pairs_pre:∀ (l:List Nat) (p:Nat),2*p≤l.length→pre (pairs l) p=pre l (2*p)
 | [],p,h=>by simp [pairs,pre]
 | [_],p,h=>by
  have:p=0:=by simp at h;omega
  subst this;simp [pre]
 | a::b::t,0,_=>by simp [pre]
 | a::b::t,p+1,h=>by
  rw [pairs,pre_cons,pairs_pre t p (by simp at h;omega),show 2*(p+1)=2*p+1+1 by omega,pre_cons,pre_cons]
  omega
theorem pairs_getD:∀ (l:List Nat) (p:Nat),2*p+1<l.length→(pairs l).getD p 0=l.getD (2*p) 0+l.getD (2*p+1) 0
 | [],p,h=>by simp at h
 | [_],p,h=>by simp at h
 | a::b::t,0,_=>by simp [pairs]
 | a::b::t,p+1,h=>by
  rw [pairs,List.getD_cons_succ,pairs_getD t p (by simp at h;omega),show 2*(p+1)=2*p+1+1 by omega,List.getD_cons_succ,List.getD_cons_succ,List.getD_cons_succ,List.getD_cons_succ]
def mrg:List Nat→List Nat→List (Nat × Bool)
 | [],ds=>ds.map fun d=>(d,false)
 | c::cs,[]=>(c,true)::mrg cs []
 | c::cs,d::ds=>if d<c then (d,false)::mrg (c::cs) ds else (c,true)::mrg cs (d::ds)
termination_by cs ds=>cs.length+ds.length
theorem mrg_nil (cs:List Nat):mrg cs []=cs.map fun c=>(c,true):=by
 induction cs with
 | nil=>simp [mrg]
 | cons c cs ih=>rw [mrg,ih];rfl
theorem mrg_lt {c d:Nat} (cs ds:List Nat) (h:d<c):mrg (c::cs) (d::ds)=(d,false)::mrg (c::cs) ds:=by rw [mrg,if_pos h]
theorem mrg_ge {c d:Nat} (cs ds:List Nat) (h:¬d<c):mrg (c::cs) (d::ds)=(c,true)::mrg cs (d::ds):=by rw [mrg,if_neg h]
theorem mrg_len:∀ cs ds,(mrg cs ds).length=cs.length+ds.length
 | [],ds=>by simp [mrg]
 | c::cs,[]=>by rw [mrg_nil];simp
 | c::cs,d::ds=>by
  by_cases h:d<c
  ·rw [mrg_lt _ _ h,List.length_cons,mrg_len (c::cs) ds];simp only [List.length_cons];omega
  ·rw [mrg_ge _ _ h,List.length_cons,mrg_len cs (d::ds)];simp only [List.length_cons];omega
termination_by cs ds=>cs.length+ds.length
def cost (r:List (Nat × Bool)):List Nat:=r.map (·.1)
theorem cost_len (r:List (Nat × Bool)):(cost r).length=r.length:=by simp [cost]
theorem cost_true (cs:List Nat):cost (cs.map fun c=>(c,true))=cs:=by simp [cost,Function.comp_def]
theorem cost_false (cs:List Nat):cost (cs.map fun c=>(c,false))=cs:=by simp [cost,Function.comp_def]
theorem mrg_mem {cs ds:List Nat} {x:Nat}:x∈cost (mrg cs ds)→x∈cs∨x∈ds:=by
 induction cs,ds using mrg.induct with
 | case1 ds=>intro h;right;simpa [mrg,cost] using h
 | case2 c cs ih=>intro h;left;simpa [mrg_nil,cost] using h
 | case3 c cs d ds hlt ih=>
  intro h
  rw [mrg_lt _ _ hlt,cost,List.map_cons,List.mem_cons] at h
  rcases h with h | h
  ·right;simp [h]
  ·rcases ih h with h | h
   ·exact .inl h
   ·exact .inr (by simp [h])
 | case4 c cs d ds hlt ih=>
  intro h
  rw [mrg_ge _ _ hlt,cost,List.map_cons,List.mem_cons] at h
  rcases h with h | h
  ·left;simp [h]
  ·rcases ih h with h | h
   ·exact .inl (by simp [h])
   ·exact .inr h
def ones (r:List (Nat × Bool)) (k:Nat):Nat:=(r.take k).countP (·.2)
theorem ones_zero (r:List (Nat × Bool)):ones r 0=0:=by simp [ones]
theorem ones_cons (a:Nat × Bool) (r:List (Nat × Bool)) (k:Nat):ones (a::r) (k+1)=(if a.2 then 1 else 0)+ones r k:=by
 simp only [ones,List.take_succ_cons,List.countP_cons]
 split <;> omega
theorem ones_le (r:List (Nat × Bool)) (k:Nat):ones r k≤k:=by
 unfold ones
 exact Nat.le_trans List.countP_le_length (by simp;omega)
theorem ones_true (cs:List Nat) (k:Nat) (h:k≤cs.length):ones (cs.map fun c=>(c,true)) k=k:=by
 induction cs generalizing k with
 | nil=>simp at h;subst h;simp [ones]
 | cons c cs ih=>
  cases k with
  | zero=>simp [ones]
  | succ k=>rw [List.map_cons,ones_cons,ih k (by simpa using h)];simp;omega
theorem ones_false (ds:List Nat) (k:Nat):ones (ds.map fun d=>(d,false)) k=0:=by
 induction ds generalizing k with
 | nil=>simp [ones]
 | cons d ds ih=>
  cases k with
  | zero=>simp [ones]
  | succ k=>rw [List.map_cons,ones_cons,ih];simp
structure Split (cs ds:List Nat) (k m:Nat):Prop where
 cnt:ones (mrg cs ds) k=m
 mle:m≤k
 mc:m≤cs.length
 md:k-m≤ds.length
 sum:pre (cost (mrg cs ds)) k=pre cs m+pre ds (k-m)
 lo:∀ i j,m≤i→i<cs.length→j<k-m→ds.getD j 0<cs.getD i 0
theorem split {cs ds:List Nat} (hc:Up cs) (k:Nat) (hk:k≤cs.length+ds.length):∃ m,Split cs ds k m:=by
 induction cs,ds using mrg.induct generalizing k with
 | case1 ds=>
  refine ⟨0,⟨by rw [mrg,ones_false],Nat.zero_le _,Nat.zero_le _,by simpa using hk,?_,fun i j _ hi=>by simp at hi⟩⟩
  rw [mrg,cost_false,pre_nil];simp
 | case2 c cs ih=>
  have hk':k≤(c::cs).length:=by simpa using hk
  refine ⟨k,⟨by rw [mrg_nil,ones_true _ _ hk'],Nat.le_refl _,hk',by simp,?_,fun i j _ _ hj=>by omega⟩⟩
  rw [mrg_nil,cost_true];simp [pre]
 | case3 c cs d ds hlt ih=>
  cases k with
  | zero=>exact ⟨0,⟨ones_zero _,Nat.le_refl _,Nat.zero_le _,by simp,by simp [pre],fun i j _ _ hj=>by omega⟩⟩
  | succ k=>
   obtain ⟨m,S⟩:=ih hc k (by simp only [List.length_cons] at hk ⊢;omega)
   have e:k+1-m=k-m+1:=by have:=S.mle;omega
   refine ⟨m,⟨?_,by have:=S.mle;omega,S.mc,?_,?_,fun i j hi hi2 hj=>?_⟩⟩
   ·rw [mrg_lt _ _ hlt,ones_cons,S.cnt];simp
   ·rw [e];have:=S.md;simp;omega
   ·rw [mrg_lt _ _ hlt,cost,List.map_cons,pre_cons,e,pre_cons]
    have:=S.sum
    rw [cost] at this
    rw [this];omega
   ·cases j with
    | zero=>
     have:=hc.getD (Nat.zero_le i) hi2
     simp only [List.getD_cons_zero] at this ⊢
     omega
    | succ j=>
     rw [List.getD_cons_succ]
     exact S.lo i j hi hi2 (by omega)
 | case4 c cs d ds hlt ih=>
  cases k with
  | zero=>exact ⟨0,⟨ones_zero _,Nat.le_refl _,Nat.zero_le _,by simp,by simp [pre],fun i j _ _ hj=>by omega⟩⟩
  | succ k=>
   obtain ⟨m,S⟩:=ih hc.tail k (by simp only [List.length_cons] at hk ⊢;omega)
   have e:k+1-(m+1)=k-m:=by omega
   refine ⟨m+1,⟨?_,by have:=S.mle;omega,by have:=S.mc;simp;omega,?_,?_,fun i j hi hi2 hj=>?_⟩⟩
   ·rw [mrg_ge _ _ hlt,ones_cons,S.cnt];simp;omega
   ·rw [e];exact S.md
   ·rw [mrg_ge _ _ hlt,cost,List.map_cons,pre_cons,e,pre_cons]
    have:=S.sum
    rw [cost] at this
    rw [this];omega
   ·cases i with
    | zero=>omega
    | succ i=>
     rw [List.getD_cons_succ]
     exact S.lo i j (by omega) (by simpa using hi2) (by omega)
def row (cs:List Nat):Nat→List (Nat × Bool)
 | 0=>cs.map fun c=>(c,true)
 | d+1=>mrg cs (pairs (cost (row cs d)))
theorem row_len0 (cs:List Nat):(row cs 0).length=cs.length:=by simp [row]
theorem row_len (cs:List Nat) (d:Nat):(row cs (d+1)).length=cs.length+(row cs d).length/2:=by
 rw [row,mrg_len,pairs_len,cost_len]
theorem row_room (cs:List Nat) (d e:Nat) (h:cs.length≤2^e*2^(d+1)):2*cs.length≤(row cs d).length+2^(e+1):=by
 induction d generalizing e with
 | zero=>
  rw [row_len0,Nat.pow_succ]
  omega
 | succ d ih=>
  have:=ih (e+1) (by rw [Nat.pow_succ 2 e,Nat.mul_assoc,Nat.mul_comm 2,←Nat.pow_succ];exact h)
  rw [row_len]
  rw [Nat.pow_succ 2 (e+1)] at this
  omega
theorem row_enough (cs:List Nat) (d:Nat) (h:cs.length≤2^(d+1)):2*cs.length-2≤(row cs d).length:=by
 have:=row_room cs d 0 (by omega)
 omega
def lev (cs:List Nat):Nat→Nat→List Nat
 | 0,k=>[ones (row cs 0) k]
 | d+1,k=>ones (row cs (d+1)) k::lev cs d (2*(k-ones (row cs (d+1)) k))
theorem lev_len (cs:List Nat) (d k:Nat):(lev cs d k).length=d+1:=by
 induction d generalizing k with
 | zero=>rfl
 | succ d ih=>rw [lev,List.length_cons,ih]
theorem ones_at {cs ds:List Nat} (i k:Nat) (h:i<ones (mrg cs ds) k):∃ q,q<k∧q<(mrg cs ds).length∧(cost (mrg cs ds)).getD q 0=cs.getD i 0:=by
 induction cs,ds using mrg.induct generalizing i k with
 | case1 ds=>rw [mrg,ones_false] at h;omega
 | case2 c cs ih=>
  have h1:=ones_le (mrg (c::cs) []) k
  have h2:ones (mrg (c::cs) []) k≤(c::cs).length:=by
   rw [mrg_nil]
   unfold ones
   exact Nat.le_trans List.countP_le_length (by simp;omega)
  refine ⟨i,by omega,by rw [mrg_nil];simp at h2 ⊢;omega,?_⟩
  rw [mrg_nil,cost_true]
 | case3 c cs d ds hlt ih=>
  cases k with
  | zero=>rw [ones_zero] at h;omega
  | succ k=>
   rw [mrg_lt _ _ hlt,ones_cons] at h
   obtain ⟨q,h1,h2,h3⟩:=ih i k (by simpa using h)
   refine ⟨q+1,by omega,by rw [mrg_lt _ _ hlt];simp;omega,?_⟩
   rw [mrg_lt _ _ hlt,cost,List.map_cons,List.getD_cons_succ]
   exact h3
 | case4 c cs d ds hlt ih=>
  cases k with
  | zero=>rw [ones_zero] at h;omega
  | succ k=>
   rw [mrg_ge _ _ hlt,ones_cons] at h
   cases i with
   | zero=>exact ⟨0,by omega,by rw [mrg_ge _ _ hlt];simp,by rw [mrg_ge _ _ hlt];simp [cost]⟩
   | succ i=>
    obtain ⟨q,h1,h2,h3⟩:=ih i k (by simp at h;omega)
    refine ⟨q+1,by omega,by rw [mrg_ge _ _ hlt];simp;omega,?_⟩
    rw [mrg_ge _ _ hlt,cost,List.map_cons,List.getD_cons_succ,List.getD_cons_succ]
    exact h3
theorem row_at {cs:List Nat} (d i k:Nat) (h:i<ones (row cs d) k):∃ q,q<k∧q<(row cs d).length∧(cost (row cs d)).getD q 0=cs.getD i 0:=by
 cases d with
 | zero=>
  rw [row,←mrg_nil] at h
  have:=ones_at i k h
  rwa [mrg_nil] at this
 | succ d=>exact ones_at i k h
theorem row_split {cs:List Nat} (hc:Up cs) (d k:Nat) (hk:k≤(row cs (d+1)).length):∃ m,Split cs (pairs (cost (row cs d))) k m∧ones (row cs (d+1)) k=m∧2*(k-m)≤(row cs d).length:=by
 obtain ⟨m,S⟩:=split (ds:=pairs (cost (row cs d))) hc k (by rwa [row,mrg_len] at hk)
 have:=S.md
 rw [pairs_len,cost_len] at this
 exact ⟨m,S,S.cnt,by omega⟩
theorem ones_row_le {cs:List Nat} (hc:Up cs) (d k:Nat) (hk:k≤(row cs d).length):ones (row cs d) k≤cs.length:=by
 cases d with
 | zero=>rw [row_len0] at hk;rw [row,ones_true _ _ hk];exact hk
 | succ d=>
  obtain ⟨m,S,h1,h2⟩:=row_split hc d k hk
  rw [h1];exact S.mc
theorem lev_le {cs:List Nat} (hc:Up cs) (d k:Nat) (hk:k≤(row cs d).length):∀ m∈lev cs d k,m≤ones (row cs d) k:=by
 induction d generalizing k with
 | zero=>intro m hm;simp [lev] at hm;omega
 | succ d ih=>
  intro m hm
  obtain ⟨q,S,h1,h2⟩:=row_split hc d k hk
  rw [lev,List.mem_cons] at hm
  rcases hm with rfl | hm
  ·exact Nat.le_refl _
  ·have h3:=ih (2*(k-ones (row cs (d+1)) k)) (by rw [h1];exact h2) m hm
   refine Nat.le_trans h3 ?_
   rw [h1]
   rcases Nat.lt_or_ge q (ones (row cs d) (2*(k-q))) with hlt | hge
   ·exfalso
    obtain ⟨p,p1,p2,p3⟩:=row_at d q _ hlt
    have hq:q<cs.length:=Nat.lt_of_lt_of_le hlt (ones_row_le hc d _ h2)
    have h4:=S.lo q (p/2) (Nat.le_refl _) hq (by omega)
    rw [pairs_getD _ _ (by rw [cost_len];omega)] at h4
    have h5:(cost (row cs d)).getD p 0≤(cost (row cs d)).getD (2*(p/2)) 0+(cost (row cs d)).getD (2*(p/2)+1) 0:=by
     rcases Nat.mod_two_eq_zero_or_one p with e | e
     ·rw [show 2*(p/2)=p by omega];omega
     ·rw [show 2*(p/2)+1=p by omega];omega
    omega
   ·exact hge
theorem lev_down {cs:List Nat} (hc:Up cs) (d k:Nat) (hk:k≤(row cs d).length):(lev cs d k).Pairwise (· ≥ ·):=by
 induction d generalizing k with
 | zero=>simp [lev]
 | succ d ih=>
  obtain ⟨q,S,h1,h2⟩:=row_split hc d k hk
  rw [lev]
  refine List.pairwise_cons.2 ⟨fun m hm=>lev_le hc (d+1) k hk m (by rw [lev];exact List.mem_cons_of_mem _ hm),ih _ (by rw [h1];exact h2)⟩
def wt:List Nat→Nat
 | []=>0
 | m::t=>m*2^t.length+wt t
theorem lev_wt {cs:List Nat} (hc:Up cs) (d k:Nat) (hk:k≤(row cs d).length):wt (lev cs d k)=k*2^d:=by
 induction d generalizing k with
 | zero=>rw [row_len0] at hk;rw [lev,row,ones_true _ _ hk];simp [wt]
 | succ d ih=>
  obtain ⟨q,S,h1,h2⟩:=row_split hc d k hk
  rw [lev,wt,lev_len,ih _ (by rw [h1];exact h2),h1,Nat.pow_succ]
  have h3:=S.mle
  have:q*(2^d*2)+2*(k-q)*2^d=(q+(k-q))*(2^d*2):=by
   rw [Nat.add_mul,Nat.mul_comm 2 (k-q),Nat.mul_assoc,Nat.mul_comm 2]
  rw [this,show q+(k-q)=k by omega]
def sumr (n:Nat) (f:Nat→Nat):Nat:=((List.range n).map f).sum
theorem sumr_zero (f:Nat→Nat):sumr 0 f=0:=rfl
theorem sumr_succ (n:Nat) (f:Nat→Nat):sumr (n+1) f=sumr n f+f n:=by simp [sumr,List.range_succ]
theorem sumr_congr {n:Nat} {f g:Nat→Nat} (h:∀ i,i<n→f i=g i):sumr n f=sumr n g:=by
 unfold sumr
 congr 1
 apply List.map_congr_left
 intro i hi
 exact h i (List.mem_range.1 hi)
theorem sumr_add (n:Nat) (f g:Nat→Nat):sumr n (fun i=>f i+g i)=sumr n f+sumr n g:=by
 induction n with
 | zero=>rfl
 | succ n ih=>rw [sumr_succ,sumr_succ,sumr_succ,ih];omega
theorem sumr_const (n c:Nat):sumr n (fun _=>c)=n*c:=by
 induction n with
 | zero=>simp [sumr_zero]
 | succ n ih=>rw [sumr_succ,ih,Nat.add_mul];omega
theorem sumr_mul (n c:Nat) (f:Nat→Nat):sumr n (fun i=>f i*c)=sumr n f*c:=by
 induction n with
 | zero=>simp [sumr_zero]
 | succ n ih=>rw [sumr_succ,sumr_succ,ih,Nat.add_mul]
theorem sumr_first (n m:Nat) (f:Nat→Nat) (h:m≤n):sumr n (fun i=>if i<m then f i else 0)=sumr m f:=by
 induction n with
 | zero=>
      have:m=0:=by omega
      subst this;rfl
 | succ n ih=>
  by_cases e:m=n+1
  ·subst e
   exact sumr_congr fun i hi=>by simp [hi]
  ·rw [sumr_succ,ih (by omega)]
   rw [if_neg (by omega)]
   omega
theorem sumr_pre (cs:List Nat) (m:Nat) (h:m≤cs.length):sumr m (fun i=>cs.getD i 0)=pre cs m:=by
 induction m with
 | zero=>simp [sumr_zero,pre]
 | succ m ih=>rw [sumr_succ,ih (by omega),pre_succ _ _ (by omega)]
def la (l:List Nat) (i:Nat):Nat:=l.countP fun m=>decide (i<m)
theorem la_cons (m:Nat) (t:List Nat) (i:Nat):la (m::t) i=(if i<m then 1 else 0)+la t i:=by
 simp only [la,List.countP_cons,decide_eq_true_eq]
 omega
theorem la_le (l:List Nat) (i:Nat):la l i≤l.length:=List.countP_le_length
def wi:List Nat→Nat→Nat
 | [],_=>0
 | m::t,i=>(if i<m then 2^t.length else 0)+wi t i
theorem wi_sum (l:List Nat) (n:Nat) (h:∀ m∈l,m≤n):sumr n (wi l)=wt l:=by
 induction l with
 | nil=>simp [wt,show wi []=fun _=>0 from rfl,sumr_const]
 | cons m t ih=>
  rw [wt,show wi (m::t)=fun i=>(if i<m then 2^t.length else 0)+wi t i from rfl,sumr_add,ih fun x hx=>h x (List.mem_cons_of_mem _ hx),sumr_first n m (fun _=>2^t.length) (h m List.mem_cons_self),sumr_const]
theorem wi_la {l:List Nat} (h:l.Pairwise (· ≥ ·)) (i:Nat):wi l i+2^(l.length-la l i)=2^l.length:=by
 induction l with
 | nil=>simp [wi,la]
 | cons m t ih=>
  obtain ⟨h1,h2⟩:=List.pairwise_cons.1 h
  rw [wi,la_cons,List.length_cons]
  by_cases hi:i<m
  ·rw [if_pos hi,if_pos hi,show t.length+1-(1+la t i)=t.length-la t i by omega,Nat.pow_succ]
   have:=ih h2
   omega
  ·have h0:la t i=0:=by
    unfold la
    rw [List.countP_eq_zero]
    intro x hx
    have:=h1 x hx
    simp;omega
   have hw:∀ u:List Nat,(∀ x∈u,x≤m)→wi u i=0:=by
    intro u hu
    induction u with
    | nil=>rfl
    | cons a u ihu=>
     rw [wi,ihu fun x hx=>hu x (List.mem_cons_of_mem _ hx)]
     have:=hu a List.mem_cons_self
     rw [if_neg (by omega)]
   rw [if_neg hi,if_neg hi,h0,hw t h1]
   simp
def lsum (cs:List Nat) (l:List Nat):Nat:=(l.map (pre cs)).sum
theorem lev_cost {cs:List Nat} (hc:Up cs) (d k:Nat) (hk:k≤(row cs d).length):lsum cs (lev cs d k)=pre (cost (row cs d)) k:=by
 induction d generalizing k with
 | zero=>rw [row_len0] at hk;rw [lev,row,ones_true _ _ hk,cost_true];simp [lsum]
 | succ d ih=>
  obtain ⟨q,S,h1,h2⟩:=row_split hc d k hk
  have:=ih (2*(k-q)) h2
  rw [lev,h1,lsum,List.map_cons,List.sum_cons,←lsum,this,row,S.sum,pairs_pre _ _ (by rw [cost_len];exact h2)]
theorem cost_la (cs l:List Nat) (h:∀ m∈l,m≤cs.length):sumr cs.length (fun i=>cs.getD i 0*la l i)=lsum cs l:=by
 induction l with
 | nil=>simp [lsum,la,sumr_const]
 | cons m t ih=>
  have h1:=ih fun x hx=>h x (List.mem_cons_of_mem _ hx)
  have h2:=h m List.mem_cons_self
  rw [lsum,List.map_cons,List.sum_cons,←lsum,←h1,←sumr_pre cs m h2,←sumr_first cs.length m (fun i=>cs.getD i 0) h2,←sumr_add]
  refine sumr_congr fun i _=>?_
  rw [la_cons,Nat.mul_add]
  split <;> simp
def top (cs:List Nat) (d:Nat):List Nat:=lev cs d (2*cs.length-2)
def best (cs:List Nat) (d:Nat):Nat:=pre (cost (row cs d)) (2*cs.length-2)
structure Fit (cs:List Nat) (d:Nat):Prop where
 up:Up cs
 two:2≤cs.length
 few:cs.length≤2^(d+1)
theorem Fit.enough {cs:List Nat} {d:Nat} (F:Fit cs d):2*cs.length-2≤(row cs d).length:=row_enough cs d F.few
theorem wt_le (l:List Nat) (m:Nat) (h:∀ x∈l,x≤m):wt l+m≤m*2^l.length:=by
 induction l with
 | nil=>simp [wt]
 | cons a t ih=>
  have h1:=ih fun x hx=>h x (List.mem_cons_of_mem _ hx)
  have h2:a*2^t.length≤m*2^t.length:=Nat.mul_le_mul_right _ (h a List.mem_cons_self)
  rw [wt,List.length_cons,Nat.pow_succ,←Nat.mul_assoc]
  omega
theorem Fit.all {cs:List Nat} {d:Nat} (F:Fit cs d):ones (row cs d) (2*cs.length-2)=cs.length:=by
 have h1:=ones_row_le F.up d _ F.enough
 have h2:=wt_le _ _ (lev_le F.up d _ F.enough)
 rw [lev_wt F.up d _ F.enough,lev_len,Nat.pow_succ,Nat.mul_comm (2^d) 2,←Nat.mul_assoc] at h2
 have h3:=F.two
 have hp:0<2^d:=Nat.two_pow_pos d
 generalize ones (row cs d) (2*cs.length-2)=m at *
 rcases Nat.lt_or_ge m cs.length with hlt | hge
 ·exfalso
  have h4:(m*2)*2^d≤(2*cs.length-2)*2^d:=Nat.mul_le_mul_right _ (by omega)
  have h5:m=0:=by omega
  subst h5
  have h6:2*2^d≤(2*cs.length-2)*2^d:=Nat.mul_le_mul_right _ (by omega)
  omega
 ·omega
theorem Fit.le {cs:List Nat} {d:Nat} (F:Fit cs d):∀ m∈top cs d,m≤cs.length:=fun m hm=>by
 have:=lev_le F.up d _ F.enough m hm
 have:=F.all
 omega
theorem Fit.la_pos {cs:List Nat} {d:Nat} (F:Fit cs d) {i:Nat} (h:i<cs.length):1≤la (top cs d) i:=by
 have:=F.all
 unfold top
 cases d with
 | zero=>rw [lev,la_cons,this,if_pos h];omega
 | succ d=>rw [lev,la_cons,this,if_pos h];omega
theorem Fit.la_le {cs:List Nat} {d:Nat} (i:Nat):la (top cs d) i≤d+1:=by
 have:=YtacpfpghokcdlaaGreatDoor.Y.la_le (top cs d) i
 rwa [top,lev_len] at this
theorem Fit.kraft {cs:List Nat} {d:Nat} (F:Fit cs d) (hd:d+1≤15):sumr cs.length (fun i=>2^(15-la (top cs d) i))=32768:=by
 have h1:=wi_sum (top cs d) cs.length F.le
 rw [top,lev_wt F.up d _ F.enough] at h1
 have h2:sumr cs.length (fun i=>wi (top cs d) i+2^(d+1-la (top cs d) i))=cs.length*2^(d+1):=by
  rw [←sumr_const]
  refine sumr_congr fun i _=>?_
  have:=wi_la (lev_down F.up d _ F.enough) i
  rwa [lev_len] at this
 rw [sumr_add,top,h1] at h2
 have h3:sumr cs.length (fun i=>2^(d+1-la (top cs d) i))=2^(d+1):=by
  have:=F.two
  rw [Nat.pow_succ] at h2 ⊢
  have e:cs.length*(2^d*2)=(2*cs.length-2)*2^d+2^d*2:=by
   rw [Nat.mul_comm (2^d) 2,←Nat.mul_assoc,←Nat.add_mul]
   congr 1
   omega
  rw [top]
  omega
 have h4:sumr cs.length (fun i=>2^(15-la (top cs d) i))=sumr cs.length (fun i=>2^(d+1-la (top cs d) i))*2^(15-(d+1)):=by
  rw [←sumr_mul]
  refine sumr_congr fun i _=>?_
  have := @Fit.la_le cs d i
  rw [←Nat.pow_add]
  congr 1
  omega
 rw [h4,h3,←Nat.pow_add,show d+1+(15-(d+1))=15 by omega]
theorem Fit.costs {cs:List Nat} {d:Nat} (F:Fit cs d):sumr cs.length (fun i=>cs.getD i 0*la (top cs d) i)=best cs d:=by
 rw [cost_la cs _ F.le,top,lev_cost F.up d _ F.enough,best]
end Go.Proofs.YtacpfpghokcdlaaGreatDoor.Y
namespace Go.Proofs.YtacpfpghokcdlaaGreatDoor
set_option maxRecDepth 100000
section
open Y (sumr sumr_succ sumr_zero sumr_congr sumr_add)
def LBs:List Nat:=[3,4,5,6,7,8,9,10,11,13,15,17,19,23,27,31,35,43,51,59,67,83,99,115,131,163,195,227,258]
def LXs:List Nat:=[0,0,0,0,0,0,0,0,1,1,1,1,2,2,2,2,3,3,3,3,4,4,4,4,5,5,5,5,0]
def DBs:List Nat:=[1,2,3,4,5,7,9,13,17,25,33,49,65,97,129,193,257,385,513,769,1025,1537,2049,3073,4097,6145,8193,12289,16385,24577]
def DXs:List Nat:=[0,0,0,0,1,1,2,2,3,3,4,4,5,5,6,6,7,7,8,8,9,9,10,10,11,11,12,12,13,13]
theorem lenOf_at:∀ i,i<29→lenOf (257+i)=some (LBs.getD i 0,LXs.getD i 0):=by decide
theorem disOf_at:∀ i,i<30→disOf i=some (DBs.getD i 0,DXs.getD i 0):=by decide
def upn (B:List Nat) (n:Nat):Nat:=B.countP fun b=>decide (b≤n)
def rix (B:List Nat) (n:Nat):Nat:=upn B n-1
theorem upn_asc {B:List Nat} (h:B.Pairwise (· < ·)) (n:Nat):(∀ i,i<upn B n→B.getD i 0≤n)∧∀ i,upn B n≤i→i<B.length→n<B.getD i 0:=by
 induction B with
 | nil=>exact ⟨fun i hi=>by simp [upn] at hi,fun i _ hi=>by simp at hi⟩
 | cons b B ih=>
  obtain ⟨h1,h2⟩:=List.pairwise_cons.1 h
  obtain ⟨i1,i2⟩:=ih h2
  by_cases hb:b≤n
  ·have e:upn (b::B) n=upn B n+1:=by unfold upn;rw [List.countP_cons,decide_eq_true hb,if_pos rfl]
   rw [e]
   refine ⟨fun i hi=>?_,fun i hi hl=>?_⟩
   ·cases i with
    | zero=>exact hb
    | succ i=>exact i1 i (by omega)
   ·cases i with
    | zero=>omega
    | succ i=>exact i2 i (by omega) (by simpa using hl)
  ·have e0:upn B n=0:=by
    unfold upn
    rw [List.countP_eq_zero]
    intro x hx
    have:=h1 x hx
    simp;omega
   have e:upn (b::B) n=0:=by unfold upn at e0 ⊢;rw [List.countP_cons,decide_eq_false hb,e0];rfl
   rw [e]
   refine ⟨fun i hi=>absurd hi (Nat.not_lt_zero i),fun i _ hl=>?_⟩
   cases i with
   | zero=>show n<b;omega
   | succ i=>exact i2 i (by omega) (by simpa using hl)
theorem upn_le (B:List Nat) (n:Nat):upn B n≤B.length:=List.countP_le_length
theorem LBs_asc:LBs.Pairwise (· < ·):=by decide
theorem DBs_asc:DBs.Pairwise (· < ·):=by decide
theorem LBs_gap:∀ i,i<28→LBs.getD (i+1) 0≤LBs.getD i 0+2^LXs.getD i 0:=by decide
theorem DBs_gap:∀ i,i<29→DBs.getD (i+1) 0≤DBs.getD i 0+2^DXs.getD i 0:=by decide
theorem upn_pos {B:List Nat} (h:B.Pairwise (· < ·)) (hB:0<B.length) {n:Nat} (hn:B.getD 0 0≤n):1≤upn B n:=by
 rcases Nat.eq_zero_or_pos (upn B n) with e | e
 ·have:=(upn_asc h n).2 0 (by omega) hB
  omega
 ·exact e
theorem lix {n:Nat} (h1:3≤n) (h2:n≤258):1≤upn LBs n∧rix LBs n<29∧LBs.getD (rix LBs n) 0≤n∧n<LBs.getD (rix LBs n) 0+2^LXs.getD (rix LBs n) 0:=by
 have hp:=upn_pos LBs_asc (by decide) (n:=n) h1
 have hl:=upn_le LBs n
 rw [show LBs.length=29 from rfl] at hl
 obtain ⟨a1,a2⟩:=upn_asc LBs_asc n
 have hr:rix LBs n=upn LBs n-1:=rfl
 have hb:=a1 (rix LBs n) (by omega)
 refine ⟨hp,by omega,hb,?_⟩
 by_cases e:rix LBs n=28
 ·rw [e] at hb ⊢
  have:LBs.getD 28 0+2^LXs.getD 28 0=259:=by decide
  omega
 ·have h3:=a2 (rix LBs n+1) (by omega) (by show _<29;omega)
  have h4:=LBs_gap (rix LBs n) (by omega)
  omega
theorem dix {n:Nat} (h1:1≤n) (h2:n≤32768):1≤upn DBs n∧rix DBs n<30∧DBs.getD (rix DBs n) 0≤n∧n<DBs.getD (rix DBs n) 0+2^DXs.getD (rix DBs n) 0:=by
 have hp:=upn_pos DBs_asc (by decide) (n:=n) h1
 have hl:=upn_le DBs n
 rw [show DBs.length=30 from rfl] at hl
 obtain ⟨a1,a2⟩:=upn_asc DBs_asc n
 have hr:rix DBs n=upn DBs n-1:=rfl
 have hb:=a1 (rix DBs n) (by omega)
 refine ⟨hp,by omega,hb,?_⟩
 by_cases e:rix DBs n=29
 ·rw [e] at hb ⊢
  have:DBs.getD 29 0+2^DXs.getD 29 0=32769:=by decide
  omega
 ·have h3:=a2 (rix DBs n+1) (by omega) (by show _<30;omega)
  have h4:=DBs_gap (rix DBs n) (by omega)
  omega
abbrev Tok:=V.M.Tok
def TkOk (t:Tok):Prop:=V.M.Right t∧t.lit<256
def lsy (n:Nat):Nat:=257+rix LBs n
def dsy (n:Nat):Nat:=rix DBs n
def fsy (t:Tok):Nat:=if t.len=0 then t.lit else lsy t.len
def lxt (n:Nat):Nat:=LXs.getD (rix LBs n) 0
def lbs (n:Nat):Nat:=LBs.getD (rix LBs n) 0
def dxt (n:Nat):Nat:=DXs.getD (rix DBs n) 0
def dbs (n:Nat):Nat:=DBs.getD (rix DBs n) 0
theorem TkOk.len {t:Tok} (h:TkOk t) (h0:t.len≠0):3≤t.len∧t.len≤258∧1≤t.dist∧t.dist≤32768:=by
 rcases h.1 with h1 | h1
 ·exact absurd h1.1 h0
 ·exact ⟨h1.1,h1.2.1,h1.2.2.1,h1.2.2.2.1⟩
theorem TkOk.fsy {t:Tok} (h:TkOk t):fsy t<286∧fsy t≠256:=by
 unfold Go.Proofs.YtacpfpghokcdlaaGreatDoor.fsy
 by_cases h0:t.len=0
 ·rw [if_pos h0];have:=h.2;omega
 ·rw [if_neg h0]
  have h1:=h.len h0
  have h2:=lix h1.1 h1.2.1
  unfold lsy;omega
theorem TkOk.dsy {t:Tok} (h:TkOk t) (h0:t.len≠0):dsy t.dist<30:=by
 have h1:=h.len h0
 exact (dix h1.2.2.1 h1.2.2.2).2.1
def cntF (r:List Tok) (y:Nat):Nat:=r.countP fun t=>decide (fsy t=y)
def cntO (r:List Tok) (y:Nat):Nat:=r.countP fun t=>decide (t.len≠0∧dsy t.dist=y)
def cfL (r:List Tok):List Nat:=(List.range 286).map fun y=>cntF r y+if y=256 then 1 else 0
def coL (r:List Tok):List Nat:=(List.range 30).map fun y=>cntO r y
theorem cfL_len (r:List Tok):(cfL r).length=286:=by simp [cfL]
theorem coL_len (r:List Tok):(coL r).length=30:=by simp [coL]
theorem cfL_at (r:List Tok) {y:Nat} (h:y<286):(cfL r).getD y 0=cntF r y+if y=256 then 1 else 0:=by simp [cfL,List.getD,h]
theorem coL_at (r:List Tok) {y:Nat} (h:y<30):(coL r).getD y 0=cntO r y:=by simp [coL,List.getD,h]
theorem cntF_le (r:List Tok) (y:Nat):cntF r y≤r.length:=List.countP_le_length
theorem cntO_le (r:List Tok) (y:Nat):cntO r y≤r.length:=List.countP_le_length
theorem cntF_pos {r:List Tok} {t:Tok} (h:t∈r):0<cntF r (fsy t):=List.countP_pos_iff.2 ⟨t,h,by simp⟩
theorem cntO_pos {r:List Tok} {t:Tok} (h:t∈r) (h0:t.len≠0):0<cntO r (dsy t.dist):=List.countP_pos_iff.2 ⟨t,h,by simp [h0]⟩
theorem sum_count (N:Nat) (p:Tok→Prop) [DecidablePred p] (f:Tok→Nat) (g:Nat→Nat) (r:List Tok) (hf:∀ t∈r,p t→f t<N) :
  sumr N (fun y=>r.countP (fun t=>decide (p t∧f t=y))*g y)=(r.map fun t=>if p t then g (f t) else 0).sum:=by
 induction r with
 | nil=>
  simp only [List.countP_nil,List.map_nil,List.sum_nil,Nat.zero_mul]
  rw [Y.sumr_const,Nat.mul_zero]
 | cons t r ih=>
  have ih:=ih fun x hx=>hf x (List.mem_cons_of_mem _ hx)
  have h1:sumr N (fun y=>(t::r).countP (fun t=>decide (p t∧f t=y))*g y)=sumr N (fun y=>r.countP (fun t=>decide (p t∧f t=y))*g y+(if p t∧f t=y then g y else 0)):=by
   refine sumr_congr fun y _=>?_
   rw [List.countP_cons,Nat.add_mul]
   congr 1
   by_cases h:p t∧f t=y
   ·rw [if_pos (decide_eq_true h),if_pos h,Nat.one_mul]
   ·rw [if_neg (by simpa using h),if_neg h,Nat.zero_mul]
  rw [h1,sumr_add,ih,List.map_cons,List.sum_cons,Nat.add_comm]
  congr 1
  by_cases hp:p t
  ·rw [if_pos hp]
   have hN:=hf t (List.mem_cons_self ..) hp
   clear h1 ih hf
   have key:∀ n,sumr n (fun y=>if p t∧f t=y then g y else 0)=if f t<n then g (f t) else 0:=by
    intro n
    induction n with
    | zero=>rfl
    | succ n ih=>
     rw [sumr_succ,ih]
     by_cases e:f t=n
     ·subst e
      rw [if_neg (Nat.lt_irrefl _),if_pos ⟨hp,rfl⟩,if_pos (Nat.lt_succ_self _),Nat.zero_add]
     ·rw [if_neg (show ¬(p t∧f t=n) from fun h=>e h.2),Nat.add_zero]
      by_cases h2:f t<n
      ·rw [if_pos h2,if_pos (by omega)]
      ·rw [if_neg h2,if_neg (by omega)]
   rw [key,if_pos hN]
  ·rw [if_neg hp]
   have:(fun y=>if p t∧f t=y then g y else 0)=fun _=>0:=by
    funext y
    rw [if_neg fun h=>hp h.1]
   rw [this,Y.sumr_const,Nat.mul_zero]
def cstL (ns ls:List Nat) (k:Nat):Nat:=sumr k fun y=>ns.getD y 0*ln ls y
theorem cost_first (ls:List Nat) {r:List Tok} (h:∀ t∈r,TkOk t):cstL (cfL r) ls 286=(r.map fun t=>ln ls (fsy t)).sum+ln ls 256:=by
 have e1:cstL (cfL r) ls 286=sumr 286 (fun y=>r.countP (fun t=>decide (True∧fsy t=y))*ln ls y+if y=256 then ln ls y else 0):=by
  refine sumr_congr fun y hy=>?_
  rw [cfL_at r hy,Nat.add_mul]
  congr 1
  ·simp only [true_and]
   rfl
  ·by_cases e:y=256
   ·rw [if_pos e,if_pos e,Nat.one_mul]
   ·rw [if_neg e,if_neg e,Nat.zero_mul]
 have key:∀ n,256<n→sumr n (fun y=>if y=256 then ln ls y else 0)=ln ls 256:=by
  intro n hn
  induction n with
  | zero=>omega
  | succ n ih=>
   rw [sumr_succ]
   by_cases e:n=256
   ·subst e
    rw [if_pos rfl]
    have:sumr 256 (fun y=>if y=256 then ln ls y else 0)=0:=by
     rw [sumr_congr (g:=fun _=>0) fun i hi=>if_neg (by omega),Y.sumr_const]
    omega
   ·rw [ih (by omega),if_neg e,Nat.add_zero]
 rw [e1,sumr_add,sum_count 286 (fun _=>True) fsy (ln ls) r (fun t ht _=>(h t ht).fsy.1),key 286 (by omega)]
 simp only [if_true]
theorem cost_other (ls:List Nat) {r:List Tok} (h:∀ t∈r,TkOk t):cstL (coL r) ls 30=(r.map fun t=>if t.len≠0 then ln ls (dsy t.dist) else 0).sum:=by
 have e1:cstL (coL r) ls 30=sumr 30 (fun y=>r.countP (fun t=>decide (t.len≠0∧dsy t.dist=y))*ln ls y):=
  sumr_congr fun y hy=>by rw [coL_at r hy];rfl
 rw [e1,sum_count 30 (fun t=>t.len≠0) (fun t=>dsy t.dist) (ln ls) r fun t ht h0=>(h t ht).dsy h0]
def xtrF (ns:List Nat) (k:Nat):Nat:=sumr k fun i=>ns.getD (257+i) 0*LXs.getD i 0
def xtrO (ns:List Nat) (k:Nat):Nat:=sumr k fun i=>ns.getD i 0*DXs.getD i 0
theorem xtr_first {r:List Tok} (h:∀ t∈r,TkOk t):xtrF (cfL r) 29=(r.map fun t=>if t.len≠0 then lxt t.len else 0).sum:=by
 have e1:xtrF (cfL r) 29=sumr 29 (fun i=>r.countP (fun t=>decide (t.len≠0∧rix LBs t.len=i))*LXs.getD i 0):=by
  refine sumr_congr fun i hi=>?_
  rw [cfL_at r (by omega),if_neg (by omega),Nat.add_zero]
  congr 1
  unfold cntF
  refine List.countP_congr fun t ht=>?_
  simp only [decide_eq_true_eq]
  unfold fsy lsy
  by_cases h0:t.len=0
  ·rw [if_pos h0]
   have:=(h t ht).2
   constructor
   ·intro e;omega
   ·intro e;exact absurd h0 e.1
  ·rw [if_neg h0]
   constructor
   ·intro e;exact ⟨h0,by omega⟩
   ·intro e;omega
 rw [e1,sum_count 29 (fun t=>t.len≠0) (fun t=>rix LBs t.len) (fun i=>LXs.getD i 0) r fun t ht h0=>(lix ((h t ht).len h0).1 ((h t ht).len h0).2.1).2.1]
 rfl
theorem xtr_other {r:List Tok} (h:∀ t∈r,TkOk t):xtrO (coL r) 30=(r.map fun t=>if t.len≠0 then dxt t.dist else 0).sum:=by
 have e1:xtrO (coL r) 30=sumr 30 (fun i=>r.countP (fun t=>decide (t.len≠0∧dsy t.dist=i))*DXs.getD i 0):=
  sumr_congr fun y hy=>by rw [coL_at r hy];rfl
 rw [e1,sum_count 30 (fun t=>t.len≠0) (fun t=>dsy t.dist) (fun i=>DXs.getD i 0) r fun t ht h0=>(h t ht).dsy h0]
 rfl
def tokP (fl ol:List Nat) (t:Tok):List (Nat × Nat):=
 if t.len=0 then [cp fl t.lit] else [cp fl (lsy t.len),(t.len-lbs t.len,lxt t.len),cp ol (dsy t.dist),(t.dist-dbs t.dist,dxt t.dist)]
def toksP (fl ol:List Nat) (r:List Tok):List (Nat × Nat):=r.flatMap (tokP fl ol)
theorem tokP_ok {fl ol:List Nat} {t:Tok} (h:TkOk t) (hf:ln fl (fsy t)≠0) (ho:t.len≠0→ln ol (dsy t.dist)≠0):TokP fl ol t (tokP fl ol t):=by
 by_cases h0:t.len=0
 ·refine .inl ⟨h0,h.2,?_,by unfold tokP;rw [if_pos h0]⟩
  unfold fsy at hf
  rwa [if_pos h0] at hf
 ·have h1:=h.len h0
  obtain ⟨_,a1,a2,a3⟩:=lix h1.1 h1.2.1
  obtain ⟨_,b1,b2,b3⟩:=dix h1.2.2.1 h1.2.2.2
  unfold fsy at hf
  rw [if_neg h0] at hf
  refine .inr ⟨h0,lsy t.len,lbs t.len,lxt t.len,t.len-lbs t.len,dsy t.dist,dbs t.dist,dxt t.dist,t.dist-dbs t.dist,lenOf_at _ a1,?_,?_,disOf_at _ b1,?_,?_,hf,ho h0,by unfold tokP;rw [if_neg h0]⟩
  ·unfold lbs lxt;omega
  ·unfold lbs;omega
  ·unfold dbs dxt;omega
  ·unfold dbs;omega
theorem toksP_ok {fl ol:List Nat} {r:List Tok} (h:∀ t∈r,TkOk t) (hf:∀ t∈r,ln fl (fsy t)≠0) (ho:∀ t∈r,t.len≠0→ln ol (dsy t.dist)≠0):ToksP fl ol r (toksP fl ol r):=by
 induction r with
 | nil=>rfl
 | cons t r ih=>
  refine ⟨tokP fl ol t,toksP fl ol r,rfl,tokP_ok (h t (List.mem_cons_self ..)) (hf t (List.mem_cons_self ..)) (ho t (List.mem_cons_self ..)),ih ?_ ?_ ?_⟩
  ·exact fun x hx=>h x (List.mem_cons_of_mem _ hx)
  ·exact fun x hx=>hf x (List.mem_cons_of_mem _ hx)
  ·exact fun x hx=>ho x (List.mem_cons_of_mem _ hx)
theorem tokP_wid (fl ol:List Nat) (t:Tok):wid (tokP fl ol t)=ln fl (fsy t)+(if t.len≠0 then ln ol (dsy t.dist) else 0)+(if t.len≠0 then lxt t.len else 0)+if t.len≠0 then dxt t.dist else 0:=by
 unfold tokP fsy
 by_cases h0:t.len=0
 ·simp [h0,wid,cp]
 ·simp only [h0,if_false,wid,cp,ne_eq,not_false_eq_true,if_true]
  omega
theorem toksP_wid (fl ol:List Nat) {r:List Tok} (h:∀ t∈r,TkOk t):wid (toksP fl ol r)+ln fl 256=cstL (cfL r) fl 286+cstL (coL r) ol 30+(xtrF (cfL r) 29+xtrO (coL r) 30):=by
 rw [cost_first fl h,cost_other ol h,xtr_first h,xtr_other h]
 have key:wid (toksP fl ol r)=(r.map fun t=>ln fl (fsy t)).sum+(r.map fun t=>if t.len≠0 then ln ol (dsy t.dist) else 0).sum+((r.map fun t=>if t.len≠0 then lxt t.len else 0).sum+(r.map fun t=>if t.len≠0 then dxt t.dist else 0).sum):=by
  clear h
  induction r with
  | nil=>rfl
  | cons t r ih=>
   have e:toksP fl ol (t::r)=tokP fl ol t++toksP fl ol r:=rfl
   rw [e,wid_app,ih,tokP_wid]
   simp only [List.map_cons,List.sum_cons]
   omega
 rw [key]
 omega
theorem cp_fit (ls:List Nat) (y:Nat):(cp ls y).1<2^(cp ls y).2:=rv_lt _ _
theorem tokP_fit (fl ol:List Nat) {t:Tok} (h:TkOk t):Fitp (tokP fl ol t):=by
 intro c hc
 unfold tokP at hc
 by_cases h0:t.len=0
 ·rw [if_pos h0,List.mem_singleton] at hc
  rw [hc];exact cp_fit _ _
 ·rw [if_neg h0] at hc
  have h1:=h.len h0
  obtain ⟨_,a1,a2,a3⟩:=lix h1.1 h1.2.1
  obtain ⟨_,b1,b2,b3⟩:=dix h1.2.2.1 h1.2.2.2
  simp only [List.mem_cons,List.not_mem_nil,or_false] at hc
  rcases hc with rfl | rfl | rfl | rfl
  ·exact cp_fit _ _
  ·show t.len-lbs t.len<2^lxt t.len
   unfold lbs lxt;omega
  ·exact cp_fit _ _
  ·show t.dist-dbs t.dist<2^dxt t.dist
   unfold dbs dxt;omega
theorem toksP_fit (fl ol:List Nat) {r:List Tok} (h:∀ t∈r,TkOk t):Fitp (toksP fl ol r):=by
 intro c hc
 obtain ⟨t,ht,hc⟩:=List.mem_flatMap.1 hc
 exact tokP_fit fl ol (h t ht) c hc
end
end Go.Proofs.YtacpfpghokcdlaaGreatDoor
namespace Go.Proofs.YtacpfpghokcdlaaGreatDoor.Y
set_option maxRecDepth 100000
section
open Go.RowKit
theorem ret_int {k:IntKind} {a b:Int} (h:a=b):Ending.returned (.int k a) = .returned (.int k b):=by rw [h]
structure Touch (S:Nat→Prop) (w w':World):Prop where
 os:w'.os=w.os
 tape:w'.tape=w.tape
 output:w'.output=w.output
 size:w.heap.size≤w'.heap.size
 block:∀ k,k<w.heap.size→¬S k→w'.heap[k]? = w.heap[k]?
theorem Touch.refl (S:Nat→Prop) (w:World):Touch S w w:=⟨rfl,rfl,rfl,Nat.le_refl _,fun _ _ _=>rfl⟩
theorem Touch.trans {S:Nat→Prop} {a b c:World} (h:Touch S a b) (k:Touch S b c):Touch S a c:=
 ⟨k.os.trans h.os,k.tape.trans h.tape,k.output.trans h.output,Nat.le_trans h.size k.size,fun i hi hs=>(k.block i (Nat.lt_of_lt_of_le hi h.size) hs).trans (h.block i hi hs)⟩
theorem Touch.mono {S T:Nat→Prop} {a b:World} (h:Touch S a b) (hT:∀ i,S i→T i):Touch T a b:=
 ⟨h.os,h.tape,h.output,h.size,fun i hi hs=>h.block i hi fun s=>hs (hT i s)⟩
theorem Touch.drewN {S:Nat→Prop} {a w:World} (h:Touch S a w) (n:Nat):Touch S a (w.drewN n):=⟨h.os,h.tape,h.output,h.size,h.block⟩
theorem Touch.drew {S:Nat→Prop} {a w:World} (h:Touch S a w):Touch S a w.drew:=⟨h.os,h.tape,h.output,h.size,h.block⟩
theorem Touch.alloc {S:Nat→Prop} {a w:World} (h:Touch S a w) (o:Obj):Touch S a (w.alloc o):=
 h.trans ⟨rfl,rfl,rfl,by simp,fun k hk _=>Below.heap_alloc _ _ _ hk⟩
theorem Touch.setCell {S:Nat→Prop} {a w:World} (h:Touch S a w) (p:Addr) (u:Value) (hp:S p.block∨a.heap.size≤p.block):Touch S a (w.setCell p u):=
 ⟨h.os,h.tape,h.output,Nat.le_trans h.size (by simp [World.setCell]),fun k hk hs=>(Below.heap_setCell _ _ _ _ (fun e=>by subst e;rcases hp with hp | hp;exact hs hp;omega)).trans (h.block k hk hs)⟩
theorem Touch.grown {S:Nat→Prop} {a w w':World} {row:Option Nat} (h:Touch S a w) (hg:w.grownBy w' row) (hr:∀ k,row=some k→S k∨a.heap.size≤k):Touch S a w':=
 ⟨hg.os.trans h.os,hg.tape.trans h.tape,hg.output.trans h.output,Nat.le_trans h.size hg.size,fun k hk hs=>
  (hg.block k (Nat.lt_of_lt_of_le hk h.size) (fun e=>by rcases hr k e.symm with hp | hp;exact hs hp;omega)).trans (h.block k hk hs)⟩
theorem Touch.below {S:Nat→Prop} {a b:World} {B:Nat} (h:Touch S a b) (hB:B≤a.heap.size) (hS:∀ k,S k→B≤k):Below B a b:=
 ⟨h.os,h.tape,h.output,h.size,fun k hk=>h.block k (by omega) fun s=>by have:=hS k s;omega⟩
theorem ownsRow_touch {S:Nat→Prop} {w w':World} {base:Nat} {e:TypeId} {size:Nat} {v:Value} {n:Nat} {xs:List Value} (h:w.ownsRow base e size v n xs) (ht:Touch S w w') (hs:∀ k,v.ownBlock=some k→¬S k):w'.ownsRow base e size v n xs:=by
 refine ⟨h.1,?_⟩
 rcases h.2 with hn | ⟨g,cap,cur,rfl,hb,hgg,rest⟩
 ·exact .inl hn
 ·refine .inr ⟨g,cap,cur,rfl,hb,?_,rest⟩
  rw [ht.block g (Array.getElem?_eq_some_iff.1 hgg).1 (hs g (by simp [Value.ownBlock]))]
  exact hgg
theorem own_shape {w:World} {base:Nat} {e:TypeId} {size:Nat} {v:Value} {n:Nat} {xs:List Value} (h:w.ownsRow base e size v n xs):∃ a c,v = .slice a n c:=by
 rcases h.2 with ⟨rfl,rfl⟩ | ⟨g,cap,cur,rfl,_⟩
 ·exact ⟨_,_,rfl⟩
 ·exact ⟨_,_,rfl⟩
theorem own_base {w:World} {base base':Nat} {e:TypeId} {size:Nat} {v:Value} {n:Nat} {xs:List Value} (h:w.ownsRow base e size v n xs) (hb:base'≤base):w.ownsRow base' e size v n xs:=by
 refine ⟨h.1,?_⟩
 rcases h.2 with h2 | ⟨g,cap,cur,hv,hg,r⟩
 ·exact .inl h2
 ·exact .inr ⟨g,cap,cur,hv,Nat.le_trans hb hg,r⟩
def cn (ls:List Nat) (n:Nat):Nat:=if n=0 then 0 else ls.count n
def fp (ls:List Nat):Nat→Nat
 | 0=>0
 | n+1=>fp ls n+cn ls n
def sp (ls:List Nat):Nat→Nat
 | 0=>0
 | n+1=>sp ls n+cn ls n*2^(15-n)
def ln (ls:List Nat) (s:Nat):Nat:=ls.getD s 0
def room (ls:List Nat):Nat:=sp ls 16
theorem Touch.of_below {S:Nat→Prop} {a b:World} (h:Below a.heap.size a b):Touch S a b:=⟨h.os,h.tape,h.output,h.size,fun k hk _=>h.block k hk⟩
theorem below_drewN {B:Nat} {a w:World} (h:Below B a w) (q:Nat):Below B a (w.drewN q):=⟨h.os,h.tape,h.output,h.size,h.block⟩
def Blk (w:World) (g:Nat) (t:TypeId) (cs:Array Value):Prop:=w.heap[g]? = some (.cells cs t (0,0))
theorem Blk.lt {w:World} {g:Nat} {t:TypeId} {cs:Array Value} (h:Blk w g t cs):g<w.heap.size:=by
 rcases Nat.lt_or_ge g w.heap.size with hlt | hge
 ·exact hlt
 ·rw [Blk,Array.getElem?_eq_none hge] at h;cases h
theorem Blk.cell {w:World} {g:Nat} {t:TypeId} {cs:Array Value} (h:Blk w g t cs) (i:Nat):w.cell? ⟨g,i,none⟩=cs[i]? := cell_of_row w g i cs t (0,0) h
theorem Blk.free {w:World} {g:Nat} {t:TypeId} {cs:Array Value} (h:Blk w g t cs) (i:Nat):w.frozen? ⟨g,i,none⟩=false:=by
 rw [Blk] at h
 simp [World.frozen?,h]
theorem Blk.made (w:World) (t:TypeId) (cs:Array Value):Blk (w.alloc (.cells cs t)) w.heap.size t cs:=by
 show (w.heap.push _)[w.heap.size]? = _
 simp
theorem Blk.touch {S:Nat→Prop} {w w':World} {g:Nat} {t:TypeId} {cs:Array Value} (h:Blk w g t cs) (ht:Touch S w w') (hs:¬S g):Blk w' g t cs:=
 (ht.block g h.lt hs).trans h
theorem Blk.below {w w':World} {g:Nat} {t:TypeId} {cs:Array Value} (h:Blk w g t cs) (hb:Below w.heap.size w w'):Blk w' g t cs:=(hb.block g h.lt).trans h
theorem Blk.low {w w':World} {B g:Nat} {t:TypeId} {cs:Array Value} (h:Blk w g t cs) (hb:Below B w w') (hg:g<B):Blk w' g t cs:=(hb.block g hg).trans h
theorem Blk.drewN {w:World} {g:Nat} {t:TypeId} {cs:Array Value} (h:Blk w g t cs) (q:Nat):Blk (w.drewN q) g t cs:=h
theorem Blk.setCell {w:World} {g:Nat} {t:TypeId} {cs:Array Value} (h:Blk w g t cs) (i:Nat) (u:Value):Blk (w.setCell ⟨g,i,none⟩ u) g t (cs.setIfInBounds i u):=by
 rw [Blk] at h ⊢
 simp [World.setCell,Array.getElem?_modify,h]
def va (n:Nat) (F:Nat→Value):Array Value:=((List.range n).map F).toArray
theorem va_size (n:Nat) (F:Nat→Value):(va n F).size=n:=by simp [va]
theorem va_at (n:Nat) (F:Nat→Value) (i:Nat) (h:i<n):(va n F)[i]? = some (F i):=by simp [va,h]
theorem va_congr {n:Nat} {F G:Nat→Value} (h:∀ i,i<n→F i=G i):va n F=va n G:=by
 unfold va
 congr 1
 apply List.map_congr_left
 intro i hi
 rw [h i (List.mem_range.1 hi)]
theorem va_set (n:Nat) (F:Nat→Value) (k:Nat) (u:Value):(va n F).setIfInBounds k u=va n fun i=>if i=k then u else F i:=by
 apply Array.ext
 ·simp [va]
 ·intro i h1 h2
  rw [Array.getElem_setIfInBounds (by simpa [va] using h2)]
  simp only [va,List.getElem_toArray,List.getElem_map,List.getElem_range]
  by_cases h:k=i
  ·subst h;simp
  ·have h':¬i=k:=fun e=>h e.symm
   simp [h,h']
theorem va_made (z:Array Value) (n:Nat):madeCells z n=va n (fun i=>z[i%z.size]!):=by
 apply Array.ext
 ·simp [va,madeCells]
 ·intro i h1 h2
  simp [va,madeCells]
abbrev ia (n:Nat) (f:Nat→Nat):Array Value:=va n fun i => .int .i64 (f i:Nat)
theorem ia_set (n:Nat) (f g:Nat→Nat) (k x:Nat) (h:∀ i,i<n→g i=if i=k then x else f i):(ia n f).setIfInBounds k (.int .i64 (x:Nat))=ia n g:=by
 rw [va_set]
 refine va_congr fun i hi=>?_
 rw [h i hi]
 split <;> rfl
section
variable {P:Program} {ops:Array Oper} {rest:List Oper} {o:Oper} {a:Act} {w:World} {Q:Exit→Act→World→Prop}
theorem wpList_make_z (hgd:o.guard=none) (t:TypeId) (l c:Operand) (ho:o.op = .makeSlice t l c) (e:TypeId) (z:Value) (size bytes n:Nat) (hu:P.underlying t=some (.slice e))
  (hin:(P.info? e).map (fun i=>(i.zero,i.size,i.bytes))=some (some z,size,bytes)) (kl kc:IntKind) (L C:Int) (hl:a.eval l = .int kl L) (hc:a.eval c = .int kc C) (hL:L=n) (hC:C=n) (hb:bytes*n≤281474976710656) (h63:n≤9223372036854775807)
  (h:∀ W,Blk W w.heap.size e (va (n*size) (fun i=>z.cells[i%z.cells.size]!))→Touch (fun _=>False) w W→W.heap.size=w.heap.size+1→wpList P ops Q rest (a.put o.dst (.slice (some ⟨w.heap.size,0,none⟩) n n)) W):wpList P ops Q (o::rest) a w:=by
 subst hL hC
 obtain ⟨i,hi,hz0,hz1,hz2⟩:=info_parts hin
 have hr:=run_make (P:=P) w t e i z hu hi hz0 kl kc n n (by omega) (Int.le_refl _) (by rw [hz2];omega) (by omega)
 rw [Int.toNat_natCast,hz1,va_made] at hr
 refine wpList_plain hgd fun K hK=>?_
 unfold Oper.wp execOp
 simp only [ho,hl,hc,Sem.run_bind,Sem.run_pure,hr,Result.andThen_ok]
 exact hK _ _ (h _ (Blk.made w e _) ((Touch.refl _ w).alloc _) (by simp))
end
def IS (w:World) (ao:Option Addr) (zs:List Int):Prop:=
 zs=[]∨∃ b off,ao=some ⟨b,off,none⟩∧∀ j,j<zs.length→w.cell? ⟨b,off+j,none⟩=some (.int .i64 (zs.getD j 0))
theorem IS.below {w w':World} {ao:Option Addr} {zs:List Int} (h:IS w ao zs) (hb:Below w.heap.size w w'):IS w' ao zs:=by
 rcases h with h | ⟨b,off,rfl,hc⟩
 ·exact .inl h
 ·exact .inr ⟨b,off,rfl,fun j hj=>by
   have:=hc j hj
   exact (hb.cell (World.block_lt_of_cell? w _ this)).trans this⟩
theorem IS.drewN {w:World} {ao:Option Addr} {zs:List Int} (h:IS w ao zs) (n:Nat):IS (w.drewN n) ao zs:=h.below (below_drewN (Below.refl _ _) n)
theorem IS.touch {S:Nat→Prop} {w w':World} {ao:Option Addr} {zs:List Int} (h:IS w ao zs) (ht:Touch S w w') (hs:∀ b off,ao=some ⟨b,off,none⟩→zs≠[]→¬S b):IS w' ao zs:=by
 rcases h with h | ⟨b,off,rfl,hc⟩
 ·exact .inl h
 ·by_cases hx:zs=[]
  ·exact .inl hx
  ·refine .inr ⟨b,off,rfl,fun j hj=>?_⟩
   have h1:=hc j hj
   rw [←h1]
   exact World.cell?_of_block (ht.block b (World.block_lt_of_cell? w _ h1) (hs b off rfl hx))
theorem IS.at {w:World} {ao:Option Addr} {zs:List Int} (h:IS w ao zs) {k:Nat} (hk:k<zs.length):∃ b off,ao=some ⟨b,off,none⟩∧w.cell? ⟨b,off+k,none⟩=some (.int .i64 (zs.getD k 0)):=by
 rcases h with h | ⟨b,off,rfl,hc⟩
 ·rw [h] at hk;simp at hk
 ·exact ⟨b,off,rfl,hc k hk⟩
def nat (zs:List Int):List Nat:=zs.map Int.toNat
theorem nat_len (zs:List Int):(nat zs).length=zs.length:=by simp [nat]
theorem getD_mem {zs:List Int} {k:Nat} (hk:k<zs.length):zs.getD k 0∈zs:=by
 rw [List.getD_eq_getElem?_getD,List.getElem?_eq_getElem hk]
 exact List.getElem_mem hk
theorem nat_ln (zs:List Int) (k:Nat):ln (nat zs) k=(zs.getD k 0).toNat:=by
 unfold ln nat
 rcases Nat.lt_or_ge k zs.length with h | h <;> simp [List.getD,h]
theorem Touch.none_below {a b:World} (h:Touch (fun _=>False) a b):Below a.heap.size a b:=h.below (Nat.le_refl _) fun _ h=>h.elim
theorem ownsRow_below {w w':World} {base:Nat} {e:TypeId} {size:Nat} {v:Value} {n:Nat} {xs:List Value} (h:w.ownsRow base e size v n xs) (hb:Below w.heap.size w w'):w'.ownsRow base e size v n xs:=
 ownsRow_touch h (Touch.of_below (S:=fun _=>False) hb) fun _ _ h=>h
structure Apg (w:World) (base e sz:Nat) (v:Value) (n:Nat) (xs:List Value) (v':Value) (w':World):Prop where
 own:w'.ownsRow base e sz v' n xs
 touch:Touch (fun k=>v.ownBlock=some k) w w'
 row:∀ k,v'.ownBlock=some k→v.ownBlock=some k∨w.heap.size≤k
theorem Apg.alloc {a b:World} {base e sz n:Nat} {v1 v2:Value} {xs:List Value} {o:Obj} (k:Apg (a.alloc o) base e sz v1 n xs v2 b):Apg a base e sz v1 n xs v2 b:=
 ⟨k.own,((Touch.refl _ a).alloc o).trans k.touch,fun i hi=>by
  rcases k.row i hi with h | h
  ·exact .inl h
  ·right;simp at h;omega⟩
theorem Apg.below {a b:World} {base e sz n:Nat} {v1 v2:Value} {xs ys:List Value} {m:Nat} (k:Apg a base e sz v1 n xs v2 b) (h:a.ownsRow base e sz v1 m ys) (hb:base≤a.heap.size):Below base a b:=
 k.touch.below hb fun i hi=>(h.lt i hi).1
def CellsAt (w:World) (sv:Value) (m:Nat) (ys:List Value):Prop:=
 (sv = .slice none 0 0∧m=0∧ys=[])∨∃ ad c,sv = .slice (some ad) m c∧∀ j u,ys[j]? = some u→w.cell? (ad.add j)=some u
structure AT (t e:Nat) (z:Value) (size bytes:Nat):Prop where
 hu:Tryz.prog.underlying t=some (.slice e)
 info:(Tryz.prog.info? e).map (fun i=>(i.zero,i.size,i.bytes))=some (some z,size,bytes)
 zs:z.cells.size=size
 pos:0<size
theorem run_append_g {t e:Nat} {z:Value} {size bytes:Nat} (T:AT t e z size bytes) (w:World) {base:Nat} {v sv:Value} {n m:Nat} {xs ys:List Value} (ty:TypeId) (hown:w.ownsRow base e size v n xs) (hs:CellsAt w sv m ys)
  (hyl:ys.length=m*size) (h1:∀ u∈ys,u.oneCell'=true) (hbase:base≤w.heap.size) (hl:n+m≤140737488355328) (hby:(n+m)*bytes≤140737488355328) :
  ∃ v' w',(Builtin.append_ #[t,t] ty #[v,sv]).run Tryz.prog w = .ok v' w'∧Apg w base e size v (n+m) (xs++ys) v' w':=by
 obtain ⟨i0,hi,hz0,hz1,hz2⟩:=info_parts T.info
 rcases hs with ⟨rfl,rfl,rfl⟩ | ⟨ad,c,rfl,hcell⟩
 ·refine ⟨v,w,run_append_owned_none w base t ty e i0 size T.hu hi v n xs hown,?_,Touch.refl _ _,fun k hk => .inl hk⟩
  simpa using hown
 ·rcases hown.2 with ⟨rfl,hn0⟩ | ⟨g,cap,cur,rfl,hbg,hh,hnc,hcm,hcs,htake⟩
  ·subst hn0
   have hx:xs=[]:=List.eq_nil_of_length_eq_zero (by rw [hown.1,Nat.zero_mul])
   subst hx
   obtain ⟨v',w',hr,ho,hg,_⟩:=run_append_own (P:=Tryz.prog) w w.heap.size t ty e i0 z size bytes T.hu hi hz0 hz1 hz2 T.zs T.pos (.slice none 0 0) 0 [] (World.ownsRow_nil _ _ _ _) ad m c ys hyl hcell h1 (by unfold maxLen;omega) hby (Nat.le_refl _)
   exact ⟨v',w',hr,own_base ho hbase,(Touch.refl _ w).grown hg fun k hk=>by simp [Value.ownBlock] at hk,fun k hk => .inr (ho.lt k hk).1⟩
  ·by_cases hroom:n+m≤cap
   ·obtain ⟨w',hr,ho,hg⟩:=run_append_fits (P:=Tryz.prog) w base t ty e i0 size T.hu hi hz1 g n cap xs hown ad m c ys hyl hcell h1 hroom
    exact ⟨_,w',hr,ho,(Touch.refl _ w).grown hg fun k hk => .inl (by cases hk;simp [Value.ownBlock]),fun k hk => .inl (by simpa [Value.ownBlock] using hk)⟩
   ·obtain ⟨v',w',hr,ho,hg⟩:=run_append_arg_grows (P:=Tryz.prog) w t ty e i0 z size bytes T.hu hi hz0 hz1 hz2 T.zs T.pos ⟨g,0,none⟩ n cap xs hown.1 (hown.cells (by simp [Value.ownBlock])) ad m c ys hyl hcell (by omega) (by unfold maxLen;omega) hby
    exact ⟨v',w',hr,own_base ho hbase,(Touch.refl _ w).grown hg (fun k hk=>by cases hk),fun k hk => .inr (ho.lt k hk).1⟩
theorem wpList_append_g {t e:Nat} {z:Value} {size bytes:Nat} (T:AT t e z size bytes) {w:World} {ops:Array Oper} {rest:List Oper} {o:Oper} {a:Act} {Q:Exit→Act→World→Prop} (hgd:o.guard=none) (s x:Operand)
  (ho:o.op = .call { callee := .builtin .append,args := #[s,x],argTypes := #[t,t] })
  (base:Nat) (v sv:Value) (n m:Nat) (xs ys:List Value) (hs:a.eval s=v) (hx:a.eval x=sv) (hown:w.ownsRow base e size v n xs) (hsrc:CellsAt w sv m ys)
  (hyl:ys.length=m*size) (h1:∀ u∈ys,u.oneCell'=true) (hbase:base≤w.heap.size) (hl:n+m≤140737488355328) (hby:(n+m)*bytes≤140737488355328)
  (h:∀ ao c w',Apg w base e size v (n+m) (xs++ys) (.slice ao (n+m) c) w'→wpList Tryz.prog ops Q rest (a.put o.dst (.slice ao (n+m) c)) w'):wpList Tryz.prog ops Q (o::rest) a w:=by
 refine wpList_plain hgd fun K hK=>?_
 obtain ⟨v',w',hrun,hA⟩:=run_append_g T w o.type hown hsrc hyl h1 hbase hl hby
 obtain ⟨ao,c,rfl⟩:=own_shape hA.own
 unfold Oper.wp
 simp [execOp,ho,resolve,invoke,builtin,hs,hx,hrun,Result.andThen]
 exact hK _ _ (by simpa using h ao c w' hA)
def iv (zs:List Int):List Value:=zs.map fun z => .int .i64 z
theorem iv_at (zs:List Int) (j:Nat) (h:j<zs.length):(iv zs)[j]? = some (.int .i64 (zs.getD j 0)):=by simp [iv,h,List.getD]
theorem at22:AT 40 3 (.int .i64 0) 1 8:=⟨by kernel_rfl,by kernel_rfl,rfl,by omega⟩
theorem a3:∀ W,(isAgg 3).run Tryz.prog W = .ok false W:=fun _=>by kernel_rfl
theorem s3:∀ W,(sizeOf 3).run Tryz.prog W = .ok 1 W:=fun _=>by kernel_rfl
def part1 (x:Nat):Nat:=if x=0 then 0 else 2^(15-x)
def rsum (l:List Nat):Nat:=(l.map part1).sum
theorem rsum_app (l:List Nat) (x:Nat):rsum (l++[x])=rsum l+part1 x:=by simp [rsum]
theorem cn_app (l:List Nat) (x n:Nat):cn (l++[x]) n=cn l n+if n=x∧n≠0 then 1 else 0:=by
 unfold cn
 by_cases h0:n=0
 ·simp [h0]
 ·rw [if_neg h0,if_neg h0,List.count_append,List.count_singleton]
  by_cases h:n=x
  ·simp [h];intro e;omega
  ·simp [h,Ne.symm h]
theorem sp_app (l:List Nat) (x n:Nat):sp (l++[x]) n=sp l n+if x<n then part1 x else 0:=by
 induction n with
 | zero=>simp [sp]
 | succ n ih=>
  rw [sp,sp,ih,cn_app,Nat.add_mul]
  by_cases h:n=x
  ·subst h
   rw [if_neg (Nat.lt_irrefl n),if_pos (Nat.lt_succ_self n)]
   by_cases h0:n=0
   ·rw [if_neg (show ¬(n=n∧n≠0) from fun e=>e.2 h0),Nat.zero_mul]
    unfold part1
    rw [if_pos h0]
    omega
   ·rw [if_pos ⟨rfl,h0⟩,Nat.one_mul]
    unfold part1
    rw [if_neg h0]
    omega
  ·rw [if_neg (show ¬(n=x∧n≠0) from fun e=>h e.1),Nat.zero_mul]
   by_cases h2:x<n
   ·rw [if_pos h2,if_pos (show x<n+1 by omega)]
    omega
   ·rw [if_neg h2,if_neg (show ¬x<n+1 by omega)]
    omega
theorem sp_nil (n:Nat):sp [] n=0:=by
 induction n with
 | zero=>rfl
 | succ n ih=>rw [sp,ih];simp [cn]
theorem room_rsum (l:List Nat) (h:∀ x∈l,x≤15):room l=rsum l:=by
 have key:∀ k,k≤l.length→sp (l.take k) 16=rsum (l.take k):=by
  intro k
  induction k with
  | zero=>intro _;rw [List.take_zero,sp_nil];rfl
  | succ k ih=>
   intro hk
   rw [List.take_succ_eq_append_getElem (by omega),sp_app,rsum_app,ih (by omega),if_pos]
   have:=h _ (List.getElem_mem (show k<l.length by omega))
   omega
 have:=key l.length (Nat.le_refl _)
 rwa [List.take_length] at this
end
theorem row_s (cs:List Nat) (d:Nat):row cs (d+1)=mrg cs (pairs (cost (row cs d))):=rfl
theorem row_z (cs:List Nat):row cs 0=cs.map fun c=>(c,true):=rfl
theorem pairs_mem:∀ {l:List Nat} {x:Nat},x∈pairs l→∃ a b,a∈l∧b∈l∧x=a+b
 | a::b::t,x,h=>by
  rw [pairs,List.mem_cons] at h
  rcases h with rfl | h
  ·exact ⟨a,b,by simp,by simp,rfl⟩
  ·obtain ⟨u,v,hu,hv,e⟩:=pairs_mem h
   exact ⟨u,v,by simp [hu],by simp [hv],e⟩
end Go.Proofs.YtacpfpghokcdlaaGreatDoor.Y
