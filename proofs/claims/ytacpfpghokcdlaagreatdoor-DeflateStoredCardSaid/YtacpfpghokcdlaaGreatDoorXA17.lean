/- Part 17. -/
import Derived.Test.YtacpfpghokcdlaaGreatDoorXA16
namespace Go.Proofs.YtacpfpghokcdlaaGreatDoor
set_option maxRecDepth 100000
def c19 (its:List (Nat × Nat)):List Nat:=(List.range 19).map fun y=>its.countP fun x=>decide (x.1=y)
theorem c19_len (its:List (Nat × Nat)):(c19 its).length=19:=by simp [c19]
theorem c19_at (its:List (Nat × Nat)) {y:Nat} (h:y<19):(c19 its).getD y 0=its.countP fun x=>decide (x.1=y):=by simp [c19,List.getD,h]
def ownF (row:List Nat):List Nat:=bldF (c19 (itsF row)) 7
theorem ownF_len (row:List Nat):(ownF row).length=19:=by unfold ownF;rw [bld_len,c19_len]
theorem uses19 (its:List (Nat × Nat)):uses (c19 its)≤2^7:=by have:=uses_le (c19 its);rw [c19_len] at this;omega
theorem ownF_7 (row:List Nat):∀ x∈ownF row,x<8:=fun x hx=>by
 have:=bld_le (ns:=c19 (itsF row)) (lim:=7) (by omega) (uses19 _) x hx
 omega
theorem ownF_ok (row:List Nat):Ok (ownF row):=bld_ok (by rw [c19_len];omega) ⟨by omega,by omega⟩ (uses19 _)
theorem c19_pos {its:List (Nat × Nat)} {x:Nat × Nat} (hx:x∈its) (h:x.1≤18):0<(c19 its).getD x.1 0:=by
 rw [c19_at _ (by omega)]
 exact List.countP_pos_iff.2 ⟨x,hx,by simp⟩
section
variable {row:List Nat}
theorem ownF_sym (h15:∀ x∈row,x≤15) (hl:row.length≤320) {x:Nat × Nat} (hx:x∈itsF row):ln (ownF row) x.1≠0:=by
 have:=bld_pos (ns:=c19 (itsF row)) (lim:=7) (by omega) (uses19 _) (s:=x.1) (c19_pos hx (itsF_ok h15 hl hx).1)
 unfold ownF
 omega
theorem ownF_itm (h15:∀ x∈row,x≤15) (hl:row.length≤320) {x:Nat × Nat} (hx:x∈itsF row):ItmOk (ownF row) x:=
 ⟨ownF_sym h15 hl hx,(itsF_ok h15 hl hx).2.1,(itsF_ok h15 hl hx).2.2⟩
theorem ownF_room (h15:∀ x∈row,x≤15) (hl:258≤row.length∧row.length≤320) (h256:row.getD 256 0≠0):room (ownF row)=32768:=by
 obtain ⟨x,hx,z,hz,hne⟩:=its_two h15 hl h256
 have h2:=uses_two (ns:=c19 (itsF row)) hne (c19_pos hx (itsF_ok h15 hl.2 hx).1) (c19_pos hz (itsF_ok h15 hl.2 hz).1)
 unfold ownF
 rw [bld_room ⟨by omega,by omega⟩ (uses19 _),if_neg (by omega),if_neg (by omega)]
end
def ordN (own:List Nat):Nat→Nat
 | 0=>0
 | n+1=>if 4<n+1∧own.getD (ord.getD n 0) 0=0 then ordN own n else n+1
theorem ordN_b (own:List Nat) (n:Nat) (h:4≤n):4≤ordN own n∧ordN own n≤n:=by
 induction n with
 | zero=>omega
 | succ n ih=>
  rw [ordN]
  split
  ·have:=ih (by omega);omega
  ·omega
theorem ordN_zero (own:List Nat) (n:Nat):∀ i,ordN own n≤i→i<n→own.getD (ord.getD i 0) 0=0:=by
 induction n with
 | zero=>intro i _ h;omega
 | succ n ih=>
  intro i h1 h2
  rw [ordN] at h1
  split at h1
  ·rename_i h
   by_cases e:i=n
   ·subst e;exact h.2
   ·exact ih i h1 (by omega)
  ·omega
def ordL (own:List Nat):List Nat:=(ord.take (ordN own 19)).map fun j=>own.getD j 0
theorem ordL_len (own:List Nat):(ordL own).length=ordN own 19:=by
 have:=ordN_b own 19 (by omega)
 unfold ordL
 rw [List.length_map,List.length_take,show ord.length=19 from rfl];omega
theorem ordL_at (own:List Nat) {i:Nat} (h:i<ordN own 19):(ordL own).getD i 0=own.getD (ord.getD i 0) 0:=by
 have:=ordN_b own 19 (by omega)
 have h19:i<ord.length:=by rw [show ord.length=19 from rfl];omega
 unfold ordL
 simp [List.getD,List.getElem?_take_of_lt h,List.getElem?_eq_getElem h19]
theorem ord_ix:∀ j,j<19→ord.idxOf j<19∧ord.getD (ord.idxOf j) 0=j:=by decide
theorem ownOf_ordL {own:List Nat} (h:own.length=19):ownOf (ordL own)=own:=by
 apply List.ext_getElem
 ·simp [ownOf,h]
 ·intro j h1 h2
  simp only [ownOf,List.getElem_map,List.getElem_range]
  have hj:j<19:=by omega
  obtain ⟨i1,i2⟩:=ord_ix j hj
  have e:own[j]=own.getD j 0:=by rw [List.getD_eq_getElem?_getD,List.getElem?_eq_getElem h2];rfl
  rw [e]
  by_cases hlt:ord.idxOf j<ordN own 19
  ·rw [ordL_at own hlt,i2]
  ·rw [List.getD_eq_getElem?_getD,List.getElem?_eq_none (by rw [ordL_len];omega)]
   have:=ordN_zero own 19 _ (Nat.not_lt.1 hlt) i1
   rw [i2] at this
   exact this.symm
def headP (r:List Tok):List (Nat × Nat):=codP (flF r) (olF r) (ordL (ownF (rowF r))) (itsF (rowF r))
def lb (last:Bool):Nat:=if last then 1 else 0
def fixP (last:Bool) (r:List Tok):List (Nat × Nat):=(lb last,1)::(1,2)::(toksP fixF fixO r++[cp fixF 256])
def tldP (last:Bool) (r:List Tok):List (Nat × Nat):=(lb last,1)::(2,2)::(headP r++(toksP (flF r) (olF r) r++[cp (flF r) 256]))
def costs (fl ol:List Nat) (r:List Tok):Nat:=cstL (cfL r) fl 286+cstL (coL r) ol 30
def xtr (r:List Tok):Nat:=xtrF (cfL r) 29+xtrO (coL r) 30
def asSto (pos n:Nat):Nat:=((pos+3+7)/8-1+bnd n)*8
def asFix (pos:Nat) (r:List Tok):Nat:=pos+3+costs fixF fixO r+xtr r
def asTld (pos:Nat) (r:List Tok):Nat:=pos+3+costs (flF r) (olF r) r+xtr r+wid (headP r)
theorem wid_fix (last:Bool) {r:List Tok} (h:∀ t∈r,TkOk t) (pos:Nat):pos+wid (fixP last r)=asFix pos r:=by
 have:=toksP_wid fixF fixO h
 unfold fixP asFix costs xtr
 simp only [wid,wid_app,cp]
 omega
theorem wid_tld (last:Bool) {r:List Tok} (h:∀ t∈r,TkOk t) (pos:Nat):pos+wid (tldP last r)=asTld pos r:=by
 have:=toksP_wid (flF r) (olF r) h
 unfold tldP asTld costs xtr
 simp only [wid,wid_app,cp]
 omega
theorem wid_sto (last:Bool) (b:List Nat) (hl:b.length≤65535) (pos:Nat):pos+wid (stoP pos b last)=asSto pos b.length:=by
 rw [stoP_wid]
 unfold asSto bnd up8
 have h1:max ((b.length+65534)/65535) 1=1:=by omega
 rw [h1]
 omega
def blkF (pos:Nat) (r:List Tok) (b:List Nat) (last:Bool):List (Nat × Nat):=
 if min (min (asSto pos b.length) (asFix pos r)) (asTld pos r)=asSto pos b.length then stoP pos b last
 else if min (min (asSto pos b.length) (asFix pos r)) (asTld pos r)=asFix pos r then fixP last r else tldP last r
theorem blkF_wid {pos:Nat} {r:List Tok} {b:List Nat} (last:Bool) (h:∀ t∈r,TkOk t) (hl:b.length≤65535):pos+wid (blkF pos r b last)=min (min (asSto pos b.length) (asFix pos r)) (asTld pos r):=by
 unfold blkF
 split
 ·rename_i e;rw [wid_sto last b hl,e]
 ·split
  ·rename_i e;rw [wid_fix last h,e]
  ·rw [wid_tld last h];omega
theorem lb_lt (last:Bool):lb last<2:=by unfold lb;split <;> omega
theorem lb_dec (last:Bool):decide (lb last=1)=last:=by cases last <;> rfl
theorem blk_fix {lim pos:Nat} {o o':List Nat} {r:List Tok} (last:Bool) (h:∀ t∈r,TkOk t) (he:V.M.ex r o=some o') (hm:o'.length≤lim):BlkP lim pos o last (fixP last r) o':=by
 intro bs cs s hbs hat ho hs
 subst hat ho
 have hsym:∀ y,y<286→ln fixF y≠0:=by decide +kernel
 have hdis:∀ y,y<30→ln fixO y≠0:=by decide +kernel
 have hp:=toksP_ok (fl:=fixF) (ol:=fixO) h (fun t ht=>hsym _ (h t ht).fsy.1) (fun t ht h0=>hdis _ ((h t ht).dsy h0))
 have hs':Str bs s.at_ ((lb last,1)::(1,2)::(toksP fixF fixO r++cp fixF 256::cs)):=by
  have e:fixP last r++cs=(lb last,1)::(1,2)::(toksP fixF fixO r++cp fixF 256::cs):=by unfold fixP;simp
  rwa [e] at hs
 obtain ⟨h1,h2⟩:=blk1_fix (lim:=lim) (lb last) (lb_lt last) hp he hm hs'
 have e7:ln fixF 256=7:=by decide +kernel
 have ew:wid (fixP last r)=3+wid (toksP fixF fixO r)+7:=by
  unfold fixP
  simp only [wid,wid_app,cp,e7]
  omega
 rw [ew,show s.at_+(3+wid (toksP fixF fixO r)+7)=s.at_+3+wid (toksP fixF fixO r)+7 by omega]
 rw [lb_dec] at h1
 exact ⟨_,h1,h2⟩
theorem blk_tld {lim pos:Nat} {o o':List Nat} {r:List Tok} (last:Bool) (h:∀ t∈r,TkOk t) (he:V.M.ex r o=some o') (hm:o'.length≤lim):BlkP lim pos o last (tldP last r) o':=by
 intro bs cs s hbs hat ho hs
 subst hat ho
 have hp:=toksP_ok (fl:=flF r) (ol:=olF r) h (fun t ht=>flF_sym (h t ht) ht) (fun t ht h0=>olF_sym (h t ht) ht h0)
 have hs':Str bs s.at_ ((lb last,1)::(2,2)::(codP (flF r) (olF r) (ordL (ownF (rowF r))) (itsF (rowF r))++(toksP (flF r) (olF r) r++cp (flF r) 256::cs))):=by
  have e:tldP last r++cs=(lb last,1)::(2,2)::(codP (flF r) (olF r) (ordL (ownF (rowF r))) (itsF (rowF r))++(toksP (flF r) (olF r) r++cp (flF r) 256::cs)):=by unfold tldP headP;simp
  rwa [e] at hs
 have hb:=rowF_b r
 have h15:=rowF_15 r
 have hown:=ownOf_ordL (ownF_len (rowF r))
 have hol:=ordN_b (ownF (rowF r)) 19 (by omega)
 obtain ⟨h1,h2⟩:=blk1_own (lim:=lim) (lb last) (fl:=flF r) (ol:=olF r) (o:=ordL (ownF (rowF r))) (its:=itsF (rowF r)) (flF_b r) (olF_b r) (by rw [ordL_len];omega)
  (fun x hx=>by
   obtain ⟨j,hj,rfl⟩:=List.mem_map.1 hx
   rcases Nat.lt_or_ge j (ownF (rowF r)).length with e | e
   ·rw [List.getD_eq_getElem?_getD,List.getElem?_eq_getElem e];exact ownF_7 _ _ (List.getElem_mem e)
   ·rw [List.getD_eq_getElem?_getD,List.getElem?_eq_none e];decide)
  (by rw [hown];exact ownF_ok _) (by rw [hown];exact ownF_room h15 ⟨hb.1,by omega⟩ (rowF_256 r)) (fun x hx=>by rw [hown];exact ownF_itm h15 (by omega) hx)
  (its_un h15 (by omega)) (flF_256 r) (rowF_256 r) (rowF_fits r) (flF_ok r) (olF_ok r) (lb_lt last) hp he hm hs'
 have ew:wid (tldP last r)=3+wid (codP (flF r) (olF r) (ordL (ownF (rowF r))) (itsF (rowF r)))+wid (toksP (flF r) (olF r) r)+ln (flF r) 256:=by
  unfold tldP headP
  simp only [wid,wid_app,cp]
  omega
 rw [ew,show s.at_+(3+wid (codP (flF r) (olF r) (ordL (ownF (rowF r))) (itsF (rowF r)))+wid (toksP (flF r) (olF r) r)+ln (flF r) 256)=s.at_+3+wid (codP (flF r) (olF r) (ordL (ownF (rowF r))) (itsF (rowF r)))+wid (toksP (flF r) (olF r) r)+ln (flF r) 256 by omega]
 rw [lb_dec] at h1
 exact ⟨_,h1,h2⟩
theorem blk_any {lim pos:Nat} {o b:List Nat} {r:List Tok} (last:Bool) (h:∀ t∈r,TkOk t) (hb:Bs b) (hl:b.length≤65535) (he:V.M.ex r o=some (o++b)) (hm:o.length+b.length≤lim):BlkP lim pos o last (blkF pos r b last) (o++b):=by
 unfold blkF
 split
 ·exact blk_stored last hb hl hm
 ·split
  ·exact blk_fix last h he (by rw [List.length_append];exact hm)
  ·exact blk_tld last h he (by rw [List.length_append];exact hm)
theorem map3_fit {o:List Nat} (h:∀ x∈o,x<8):Fitp (o.map fun x=>(x,3)):=fun c hc=>by
 obtain ⟨x,hx,rfl⟩:=List.mem_map.1 hc
 exact h x hx
theorem headP_fit (r:List Tok):Fitp (headP r):=by
 have hb:=rowF_b r
 have h1:=flF_b r
 have h2:=olF_b r
 have hol:=ordN_b (ownF (rowF r)) 19 (by omega)
 intro c hc
 unfold headP codP at hc
 simp only [List.mem_cons,List.mem_append] at hc
 rcases hc with rfl | rfl | rfl | hc | hc
 ·show (flF r).length-257<2^5;omega
 ·show (olF r).length-1<2^5;omega
 ·show (ordL (ownF (rowF r))).length-4<2^4
  rw [ordL_len];omega
 ·refine map3_fit (fun x hx=>?_) c hc
  obtain ⟨j,hj,rfl⟩:=List.mem_map.1 hx
  rcases Nat.lt_or_ge j (ownF (rowF r)).length with e | e
  ·rw [List.getD_eq_getElem?_getD,List.getElem?_eq_getElem e];exact ownF_7 _ _ (List.getElem_mem e)
  ·rw [List.getD_eq_getElem?_getD,List.getElem?_eq_none e];decide
 ·obtain ⟨x,hx,hc⟩:=List.mem_flatMap.1 hc
  have hk:=itsF_ok (rowF_15 r) (by omega) hx
  unfold itmP at hc
  split at hc
  ·rename_i hr
   simp only [List.mem_cons,List.not_mem_nil,or_false] at hc
   rcases hc with rfl | rfl
   ·exact cp_fit _ _
   ·exact hk.2.1 hr
  ·rw [List.mem_singleton] at hc
   rw [hc];exact cp_fit _ _
theorem blkF_fit {pos:Nat} {r:List Tok} {b:List Nat} (last:Bool) (h:∀ t∈r,TkOk t) (hb:Bs b) (hl:b.length≤65535):Fitp (blkF pos r b last):=by
 have hlb:=lb_lt last
 unfold blkF
 split
 ·exact stoP_fit pos hb hl last
 ·split
  ·intro c hc
   unfold fixP at hc
   simp only [List.mem_cons,List.mem_append,List.not_mem_nil,or_false] at hc
   rcases hc with rfl | rfl | hc | rfl
   ·exact hlb
   ·decide
   ·exact toksP_fit _ _ h c hc
   ·exact cp_fit _ _
  ·intro c hc
   unfold tldP at hc
   simp only [List.mem_cons,List.mem_append,List.not_mem_nil,or_false] at hc
   rcases hc with rfl | rfl | hc | hc | rfl
   ·exact hlb
   ·decide
   ·exact headP_fit r c hc
   ·exact toksP_fit _ _ h c hc
   ·exact cp_fit _ _
def upN (most:Nat):List Tok→Nat→Nat→Nat
 | [],_,_=>0
 | t::r,k,told=>if 0<k∧told<most then upN most r (k-1) (told+V.M.tells t)+1 else 0
theorem upN_le (most:Nat):∀ (r:List Tok) (k told:Nat),upN most r k told≤r.length∧upN most r k told≤k:=by
 intro r
 induction r with
 | nil=>intro k told;exact ⟨Nat.zero_le _,Nat.zero_le _⟩
 | cons t r ih=>
  intro k told
  rw [upN]
  split
  ·have:=ih (k-1) (told+V.M.tells t)
   rw [List.length_cons];omega
  ·exact ⟨Nat.zero_le _,Nat.zero_le _⟩
theorem upN_told (most:Nat):∀ (r:List Tok) (k told j:Nat),j≤r.length→told+V.M.sum (r.take j)=most→told+V.M.sum (r.take (upN most r k told))≤most∧upN most r k told≤j:=by
 intro r
 induction r with
 | nil=>intro k told j hj h;simp [upN,V.M.sum] at h ⊢;omega
 | cons t r ih=>
  intro k told j hj h
  rw [upN]
  split
  ·rename_i hc
   cases j with
   | zero=>simp [V.M.sum] at h;omega
   | succ j=>
    rw [List.take_succ_cons,V.M.sum_cons] at h
    have:=ih (k-1) (told+V.M.tells t) j (by simpa using hj) (by omega)
    rw [List.take_succ_cons,V.M.sum_cons]
    omega
  ·rw [List.take_zero];simp [V.M.sum];omega
theorem upN_pos {most:Nat} {r:List Tok} (h:r≠[]) (hm:0<most):1≤upN most r 16384 0:=by
 obtain ⟨t,r,rfl⟩:=List.exists_cons_of_ne_nil h
 rw [upN,if_pos ⟨by omega,hm⟩]
 omega
structure Pst where
 r:List Tok
 at_:Nat
 P:List (Nat × Nat)
def pk1 (bs:List Nat) (en:Nat) (s:Pst):Pst:=
 let n:=upN (en-s.at_) s.r 16384 0
 let told:=V.M.sum (s.r.take n)
 ⟨s.r.drop n,s.at_+told,s.P++blkF (wid s.P) (s.r.take n) ((bs.drop s.at_).take told) (decide (s.at_+told=bs.length))⟩
def pkB (bs:List Nat) (en:Nat):Nat→Pst→Pst
 | 0,s=>s
 | f+1,s=>if (pk1 bs en s).at_<en then pkB bs en f (pk1 bs en s) else pk1 bs en s
def pkS (bs:List Nat):List Nat→Pst→Pst
 | [],s=>s
 | en::es,s=>pkS bs es (pkB bs en (s.r.length+1) s)
def byts (P:List (Nat × Nat)):List Nat:=(List.range ((wid P+7)/8)).map fun i=>val P/256^i%256
theorem num_digits (N:Nat):∀ n,num ((List.range n).map fun i=>N/256^i%256)=N%256^n:=by
 intro n
 induction n with
 | zero=>simp [num,Nat.mod_one]
 | succ n ih=>
  rw [List.range_succ,List.map_append,num_app,ih,List.length_map,List.length_range]
  simp only [List.map_cons,List.map_nil,num_one]
  rw [Nat.pow_succ,Nat.mod_mul]
theorem byts_holds {P:List (Nat × Nat)} (h:Fitp P):Holds8 (byts P) P:=by
 have hlen:(byts P).length=(wid P+7)/8:=by simp [byts]
 have hv:=val_lt h
 have hb:Bs (byts P):=fun x hx=>by
  obtain ⟨i,_,rfl⟩:=List.mem_map.1 hx
  exact Nat.mod_lt _ (by decide)
 have hn:num (byts P)=val P:=by
  unfold byts
  rw [num_digits]
  refine Nat.mod_eq_of_lt (Nat.lt_of_lt_of_le hv ?_)
  rw [show (256:Nat)=2^8 from rfl,←Nat.pow_mul]
  exact Nat.pow_le_pow_right (by omega) (by omega)
 exact ⟨hb,⟨by omega,by omega,by rw [hn];exact hv⟩,hn⟩
structure AP (bs:List Nat) (ends:List Nat) (r:List Tok):Prop where
 ex:V.M.ex r []=some bs
 ok:∀ t∈r,TkOk t
 cut:∀ e∈ends,∃ j,j≤r.length∧V.M.sum (r.take j)=e
structure Ends (n:Nat) (ends:List Nat):Prop where
 asc:ends.Pairwise (· < ·)
 last:ends.getLast? = some n
 pos:∀ e∈ends,e≤n∧(e=0→n=0)
theorem ex_ok {r:List Tok} {l m:List Nat} (h:V.M.ex r l=some m) (hl:∀ t∈r,t.lit<256):∀ t∈r,TkOk t:=by
 induction r generalizing l with
 | nil=>intro t ht;cases ht
 | cons u r ih=>
  rw [V.M.ex] at h
  split at h
  ·rename_i hc
   intro t ht
   rcases List.mem_cons.1 ht with rfl | ht
   ·exact ⟨hc.1,hl t (List.mem_cons_self ..)⟩
   ·exact ih h (fun z hz=>hl z (List.mem_cons_of_mem _ hz)) t ht
  ·cases h
structure Mid (bs:List Nat) (R:List Tok) (s:Pst) (j k:Nat):Prop where
 rest:s.r=R.drop j
 j_le:j≤R.length
 at_:s.at_=V.M.sum (R.take j)
 fit:Fitp s.P
 wide:wid s.P≤64*k+8*s.at_
 k_le:k≤j
 nl:NL bs.length s.P (bs.take s.at_) k
structure Fin_ (bs:List Nat) (s:Pst) (k:Nat):Prop where
 fit:Fitp s.P
 wide:wid s.P≤64*k+8*bs.length
 few:k≤bs.length+1
 infl:∀ out,Holds8 out s.P→∃ st,infl out bs.length = .ok () ⟨wid s.P,bs,st,k⟩
theorem Mid.start (bs:List Nat) (R:List Tok):Mid bs R ⟨R,0,[]⟩ 0 0:=⟨rfl,Nat.zero_le _,rfl,(fun c hc=>by cases hc),Nat.zero_le _,Nat.zero_le _,NL.nil _⟩
section
variable {bs:List Nat} {R:List Tok} {ends:List Nat}
theorem AP.mid (A:AP bs ends R) {s:Pst} {j k:Nat} (M:Mid bs R s j k):V.M.ex s.r (bs.take s.at_)=some bs∧s.at_≤bs.length∧s.at_+V.M.sum s.r=bs.length:=by
 have h1:=V.M.ex_first A.ex j
 have h0:V.M.ex (R.take j++R.drop j) []=some bs:=by rw [List.take_append_drop];exact A.ex
 rw [V.M.ex_append,h1.1] at h0
 rw [M.rest,M.at_]
 have h2:=V.M.ex_len (show V.M.ex (R.drop j) (bs.take (V.M.sum (R.take j)))=some bs from h0)
 rw [List.length_take,Nat.min_eq_left h1.2] at h2
 exact ⟨h0,h1.2,h2.symm⟩
theorem sum_drop (R:List Tok) (j i:Nat) (hij:j≤i):V.M.sum (R.take i)=V.M.sum (R.take j)+V.M.sum ((R.drop j).take (i-j)):=by
 have e:R.take i=R.take j++(R.drop j).take (i-j):=by
  rw [←List.take_add];congr 1;omega
 rw [e]
 simp [V.M.sum]
theorem Mid.one (hbs:Bs bs) (hl:bs.length≤65535) (A:AP bs ends R) {s:Pst} {j k en:Nat} (M:Mid bs R s j k) (he:en∈ends) (hen:en≤bs.length) (hat:s.at_<en∨(s.at_=en∧bs.length=0)) :
  (pk1 bs en s).at_≤en∧s.at_≤(pk1 bs en s).at_∧(pk1 bs en s).r.length≤s.r.length∧(s.at_<en→(pk1 bs en s).r.length<s.r.length)∧
   ((pk1 bs en s).at_<bs.length→∃ j',Mid bs R (pk1 bs en s) j' (k+1))∧((pk1 bs en s).at_=bs.length→Fin_ bs (pk1 bs en s) (k+1)):=by
 obtain ⟨hx,hle,hsum⟩:=A.mid M
 obtain ⟨i,hi,hie⟩:=A.cut en he
 have hjm:=M.j_le
 have hji:j≤i∨s.at_=en:=by
  rcases Nat.lt_or_ge i j with h | h
  ·right
   have h3:=sum_drop R i j (by omega)
   have h4:=M.at_
   omega
  ·exact .inl h
 obtain ⟨n,hn⟩:∃ n,n=upN (en-s.at_) s.r 16384 0:=⟨_,rfl⟩
 obtain ⟨told,ht⟩:∃ told,told=V.M.sum (s.r.take n):=⟨_,rfl⟩
 have hnl:=upN_le (en-s.at_) s.r 16384 0
 rw [←hn] at hnl
 have htold:told≤en-s.at_:=by
  rcases hji with hji | hji
  ·have h3:=sum_drop R j i hji
   have h4:=M.at_
   have:=(upN_told (en-s.at_) s.r 16384 0 (i-j) (by rw [M.rest,List.length_drop];omega) (by rw [M.rest];omega)).1
   rw [←hn,←ht] at this
   omega
  ·have:=(upN_told (en-s.at_) s.r 16384 0 0 (Nat.zero_le _) (by simp [V.M.sum];omega)).1
   rw [←hn,←ht] at this
   omega
 have e1:pk1 bs en s=⟨s.r.drop n,s.at_+told,s.P++blkF (wid s.P) (s.r.take n) ((bs.drop s.at_).take told) (decide (s.at_+told=bs.length))⟩:=by
  rw [ht,hn];rfl
 rw [e1]
 simp only
 have hok:∀ t∈s.r.take n,TkOk t:=fun t h=>A.ok t (List.mem_of_mem_drop (by have:=List.mem_of_mem_take h;rwa [M.rest] at this))
 have hb2:Bs ((bs.drop s.at_).take told):=fun x h=>hbs x (List.mem_of_mem_drop (List.mem_of_mem_take h))
 have hbl:((bs.drop s.at_).take told).length=told:=by rw [List.length_take,List.length_drop];omega
 have htk:bs.take (s.at_+told)=bs.take s.at_++(bs.drop s.at_).take told:=List.take_add
 have hexn:V.M.ex (s.r.take n) (bs.take s.at_)=some (bs.take s.at_++(bs.drop s.at_).take told):=by
  have h0:V.M.ex (s.r.take n++s.r.drop n) (bs.take s.at_)=some bs:=by rw [List.take_append_drop];exact hx
  rw [V.M.ex_append] at h0
  cases h1:V.M.ex (s.r.take n) (bs.take s.at_) with
  | none=>rw [h1] at h0;cases h0
  | some m=>
   rw [h1] at h0
   have h2:V.M.ex (s.r.drop n) m=some bs:=h0
   have h3:=V.M.ex_take h2
   have h4:=V.M.ex_len h1
   rw [List.length_take,Nat.min_eq_left hle,←ht] at h4
   rw [h4] at h3
   rw [←h3,htk]
 have hB:=fun last=>blk_any (lim:=bs.length) (pos:=wid s.P) (o:=bs.take s.at_) (r:=s.r.take n) last hok hb2 (by omega) hexn (by rw [List.length_take,hbl];omega)
 have hF:=fun last=>blkF_fit (pos:=wid s.P) (r:=s.r.take n) (b:=(bs.drop s.at_).take told) last hok hb2 (by omega)
 have hW:=fun last=>blkF_wid (pos:=wid s.P) (r:=s.r.take n) (b:=(bs.drop s.at_).take told) last hok (by omega)
 have hWl:∀ last,wid s.P+wid (blkF (wid s.P) (s.r.take n) ((bs.drop s.at_).take told) last)≤wid s.P+64+8*told:=fun last=>by
  rw [hW last,hbl]
  have h1:max ((told+65534)/65535) 1=1:=by omega
  have h2:asSto (wid s.P) told≤wid s.P+64+8*told:=by unfold asSto bnd;rw [h1];omega
  omega
 refine ⟨by omega,by omega,by rw [List.length_drop];omega,?_,?_,?_⟩
 ·intro hlt
  have hrne:s.r≠[]:=fun e=>by
   rw [e] at hsum
   simp [V.M.sum] at hsum
   omega
  have:=upN_pos (most:=en-s.at_) hrne (by omega)
  have:=List.length_pos_iff.2 hrne
  rw [List.length_drop,hn]
  omega
 ·intro hlt
  rw [decide_eq_false (by omega)]
  have hlast:=hB false
  have hn1:1≤n:=by
   rcases hat with h | h
   ·have hrne:s.r≠[]:=fun e=>by
     rw [e] at hsum
     simp [V.M.sum] at hsum
     omega
    have:=upN_pos (most:=en-s.at_) hrne (by omega)
    omega
   ·omega
  have hrl:n≤R.length-j:=by have:=hnl.1;rw [M.rest,List.length_drop] at this;exact this
  have hsd:=sum_drop R j (j+n) (by omega)
  rw [show j+n-j=n by omega,←M.rest,←ht] at hsd
  have hMa:=M.at_
  have hMw:=M.wide
  have hMk:=M.k_le
  refine ⟨j+n,⟨?_,by omega,by rw [hsd];simp only;omega,M.fit.app (hF false),?_,by omega,?_⟩⟩
  ·show s.r.drop n=R.drop (j+n)
   rw [M.rest,List.drop_drop]
  ·show wid (s.P++_)≤64*(k+1)+8*(s.at_+told)
   rw [wid_app]
   have:=hWl false
   omega
  ·show NL bs.length (s.P++_) (bs.take (s.at_+told)) (k+1)
   rw [htk]
   exact M.nl.snoc hlast
 ·intro heq
  rw [decide_eq_true heq]
  have hMw:=M.wide
  have hRl:=V.M.len_le_sum R
  have hRs:=V.M.ex_len A.ex
  have hMk:=M.k_le
  simp only [List.length_nil,Nat.zero_add] at hRs
  refine ⟨M.fit.app (hF true),?_,by omega,?_⟩
  ·show wid (s.P++_)≤64*(k+1)+8*bs.length
   rw [wid_app]
   have:=hWl true
   omega
  ·intro out ho
   obtain ⟨st,h⟩:=M.nl.done (hB true) ho
   refine ⟨st,?_⟩
   rw [h,←htk,heq,List.take_length]
theorem Mid.upto (hbs:Bs bs) (hl:bs.length≤65535) (A:AP bs ends R) {en:Nat} (he:en∈ends) (hen:en≤bs.length):∀ (f:Nat) {s:Pst} {j k:Nat},Mid bs R s j k→s.r.length<f→(s.at_<en∨(s.at_=en∧bs.length=0))→
  ∃ k',k<k'∧(pkB bs en f s).at_=en∧(en<bs.length→∃ j',Mid bs R (pkB bs en f s) j' k')∧(en=bs.length→Fin_ bs (pkB bs en f s) k'):=by
 intro f
 induction f with
 | zero=>intro s j k _ h _;omega
 | succ f ih=>
  intro s j k M hf hat
  obtain ⟨h1,h2,h3,h4,h5,h6⟩:=M.one hbs hl A he hen hat
  rw [pkB]
  by_cases hlt:(pk1 bs en s).at_<en
  ·rw [if_pos hlt]
   obtain ⟨j',M'⟩:=h5 (by omega)
   obtain ⟨k',k1,k2,k3,k4⟩:=ih M' (by
    rcases hat with h | h
    ·have:=h4 h;omega
    ·omega) (.inl hlt)
   exact ⟨k',by omega,k2,k3,k4⟩
  ·rw [if_neg hlt]
   refine ⟨k+1,by omega,by omega,fun h=>h5 (by omega),fun h=>h6 (by omega)⟩
theorem Mid.all (hbs:Bs bs) (hl:bs.length≤65535) (A:AP bs ends R):∀ (es:List Nat) {s:Pst} {j k:Nat},(∀ e∈es,e∈ends)→es.Pairwise (· < ·)→es.getLast? = some bs.length→(∀ e∈es,e≤bs.length)→(∀ e∈es,s.at_<e∨(s.at_=e∧bs.length=0))→Mid bs R s j k→
  ∃ k',k+es.length≤k'∧Fin_ bs (pkS bs es s) k':=by
 intro es
 induction es with
 | nil=>intro s j k _ _ h;simp at h
 | cons en es ih=>
  intro s j k hin hasc hlast hle hat M
  obtain ⟨p1,p2⟩:=List.pairwise_cons.1 hasc
  obtain ⟨k1,a1,a2,a3,a4⟩:=M.upto hbs hl A (hin en (List.mem_cons_self ..)) (hle en (List.mem_cons_self ..)) (s.r.length+1) (by omega) (hat en (List.mem_cons_self ..))
  rw [pkS]
  rcases es with _ | ⟨e2,es⟩
  ·have:en=bs.length:=by simpa using hlast
   rw [pkS]
   exact ⟨k1,by simp;omega,a4 this⟩
  ·have hlt:en<bs.length:=by
    have:=p1 e2 (List.mem_cons_self ..)
    have:=hle e2 (by simp)
    omega
   obtain ⟨j',M'⟩:=a3 hlt
   obtain ⟨k2,b1,b2⟩:=ih (fun e h=>hin e (List.mem_cons_of_mem _ h)) p2 (by rw [←hlast];rfl) (fun e h=>hle e (List.mem_cons_of_mem _ h)) (fun e h => .inl (by rw [a2];exact p1 e h)) M'
   refine ⟨k2,?_,b2⟩
   simp only [List.length_cons] at b1 ⊢
   omega
theorem packed_ok (hbs:Bs bs) (hl:bs.length≤65535) (E:Ends bs.length ends) (A:AP bs ends R):∃ k,ends.length≤k∧Fin_ bs (pkS bs ends ⟨R,0,[]⟩) k:=by
 have hat:∀ e∈ends,(⟨R,0,[]⟩:Pst).at_<e∨((⟨R,0,[]⟩:Pst).at_=e∧bs.length=0):=fun e he=>by
  have:=(E.pos e he).2
  show 0<e∨(0=e∧_)
  omega
 obtain ⟨k,h1,h2⟩:=Mid.all hbs hl A ends (fun _ h=>h) E.asc E.last (fun e he=>(E.pos e he).1) hat (Mid.start bs R)
 exact ⟨k,by omega,h2⟩
end
end Go.Proofs.YtacpfpghokcdlaaGreatDoor
namespace Go.Proofs.YtacpfpghokcdlaaGreatDoor.V
set_option maxRecDepth 100000
section
open Go.RowKit
def tcl (r:List M.Tok):List Value:=r.flatMap fun t=>[.int .u8 (t.lit:Nat),.int .i64 (t.len:Nat),.int .i64 (t.dist:Nat)]
theorem tcl_cons (t:M.Tok) (r:List M.Tok):tcl (t::r) = .int .u8 (t.lit:Nat) :: .int .i64 (t.len:Nat) :: .int .i64 (t.dist:Nat)::tcl r:=rfl
theorem tcl_app (a b:List M.Tok):tcl a++tcl b=tcl (a++b):=by simp [tcl]
theorem tcl_len (r:List M.Tok):(tcl r).length=r.length*3:=by
 induction r with
 | nil=>rfl
 | cons t r ih=>rw [tcl_cons,List.length_cons,List.length_cons,List.length_cons,ih,List.length_cons];omega
theorem tcl_one (r:List M.Tok):∀ u∈tcl r,u.oneCell'=true:=by
 induction r with
 | nil=>intro u hu;cases hu
 | cons t r ih=>
  intro u hu
  rw [tcl_cons,List.mem_cons,List.mem_cons,List.mem_cons] at hu
  rcases hu with rfl | rfl | rfl | hu
  ·rfl
  ·rfl
  ·rfl
  ·exact ih u hu
def tk (r:List M.Tok) (k:Nat):M.Tok:=r.getD k ⟨0,0,0⟩
theorem tcl_at (r:List M.Tok) (k:Nat) (h:k<r.length):(tcl r)[k*3]? = some (.int .u8 ((tk r k).lit:Nat))∧(tcl r)[k*3+1]? = some (.int .i64 ((tk r k).len:Nat))∧(tcl r)[k*3+2]? = some (.int .i64 ((tk r k).dist:Nat)):=by
 induction r generalizing k with
 | nil=>simp at h
 | cons t r ih=>
  cases k with
  | zero=>exact ⟨rfl,rfl,rfl⟩
  | succ k=>
   have:=ih k (by simpa using h)
   rw [tcl_cons,show (k+1)*3=k*3+1+1+1 by omega]
   simp only [List.getElem?_cons_succ,show k*3+1+1+1+1=k*3+1+1+1+1 from rfl]
   exact this
theorem tk_take (r:List M.Tok) (k:Nat) (h:k<r.length):r.take (k+1)=r.take k++[tk r k]:=by
 rw [List.take_succ_eq_append_getElem h]
 unfold tk
 rw [List.getD_eq_getElem?_getD,List.getElem?_eq_getElem h];rfl
theorem tk_mem (r:List M.Tok) (k:Nat) (h:k<r.length):tk r k∈r:=by
 unfold tk
 rw [List.getD_eq_getElem?_getD,List.getElem?_eq_getElem h]
 exact List.getElem_mem h
def KS (w:World) (ao:Option Addr) (r:List M.Tok):Prop:=r=[]∨∃ b off,ao=some ⟨b,off,none⟩∧w.rangeAt b off (tcl r)
theorem KS.on {w w':World} {ao:Option Addr} {r:List M.Tok} (h:KS w ao r) (hb:Below w.heap.size w w'):KS w' ao r:=by
 rcases h with h | ⟨b,off,rfl,hc⟩
 ·exact .inl h
 ·exact .inr ⟨b,off,rfl,fun j v hv=>by
   have:=hc j v hv
   exact (hb.cell (World.block_lt_of_cell? w _ this)).trans this⟩
theorem KS.at {w:World} {ao:Option Addr} {r:List M.Tok} (h:KS w ao r) {k:Nat} (hk:k<r.length) :
  ∃ b off,ao=some ⟨b,off,none⟩∧w.cell? ⟨b,off+k*3,none⟩=some (.int .u8 ((tk r k).lit:Nat))∧w.cell? ⟨b,off+k*3+1,none⟩=some (.int .i64 ((tk r k).len:Nat))∧w.cell? ⟨b,off+k*3+2,none⟩=some (.int .i64 ((tk r k).dist:Nat)):=by
 rcases h with rfl | ⟨b,off,rfl,hc⟩
 ·simp at hk
 ·obtain ⟨h1,h2,h3⟩:=tcl_at r k hk
  exact ⟨b,off,rfl,hc _ _ h1,by have:=hc _ _ h2;rwa [←Nat.add_assoc] at this,by have:=hc _ _ h3;rwa [←Nat.add_assoc] at this⟩
theorem KS.take {w:World} {ao:Option Addr} {r:List M.Tok} (h:KS w ao r) (k:Nat):KS w ao (r.take k):=by
 rcases h with rfl | ⟨b,off,rfl,hc⟩
 ·exact .inl (by simp)
 ·refine .inr ⟨b,off,rfl,fun j v hv=>hc j v ?_⟩
  have hsplit:tcl r=tcl (r.take k)++tcl (r.drop k):=by rw [tcl_app,List.take_append_drop]
  rw [hsplit,List.getElem?_append_left (List.getElem?_eq_some_iff.1 hv).1]
  exact hv
theorem own_ks {w:World} {base e:Nat} {ao:Option Addr} {c n:Nat} {r:List M.Tok} (h:w.ownsRow base e 3 (.slice ao n c) n (tcl r)) (hn:r.length=n):KS w ao r:=by
 subst hn
 rcases h.2 with ⟨e,h0⟩ | ⟨g,cap,cur,e,hbg,hh,hnc,hcm,hcs,htake⟩
 ·exact .inl (List.eq_nil_of_length_eq_zero h0)
 ·simp only [Value.slice.injEq] at e
  obtain ⟨rfl,_,rfl⟩:=e
  refine .inr ⟨g,0,rfl,fun j v hv=>?_⟩
  have hj:j<r.length*3:=by
   have:=(List.getElem?_eq_some_iff.1 hv).1
   rwa [tcl_len] at this
  rw [Nat.zero_add,World.ownsRow.cellAt h j (by omega),hv]
theorem cells_three (w:World) (e:TypeId) (x y z:Value):CellsAt (w.alloc (.cells #[x,y,z] e)) (.slice (some ⟨w.heap.size,0,none⟩) 1 1) 1 [x,y,z]:=by
 refine .inr ⟨_,1,rfl,fun j u hu=>?_⟩
 rw [Addr.add_lit,Nat.zero_add,(Blk.made w e _).cell]
 simpa using hu
theorem at_tok:AT 99 128 (.agg #[.int .u8 0,.int .i64 0,.int .i64 0]) 3 24:=⟨by kernel_rfl,by kernel_rfl,rfl,by omega⟩
end
end Go.Proofs.YtacpfpghokcdlaaGreatDoor.V
namespace Go.Proofs.YtacpfpghokcdlaaGreatDoor
set_option maxRecDepth 100000
theorem back_at (far:Nat) (h1:1≤far):∀ (n:Nat) (l:List Nat),far≤l.length→∀ k,k<n→(V.M.back far n l).getD (l.length+k) 0=(V.M.back far n l).getD (l.length+k-far) 0:=by
 intro n
 induction n with
 | zero=>intro l _ k hk;omega
 | succ n ih=>
  intro l hl k hk
  have hlen:=V.M.back_len far n l
  rw [V.M.back_succ]
  rcases Nat.lt_or_ge k n with h | h
  ·have:=ih l hl k h
   simp only [List.getD_eq_getElem?_getD] at this ⊢
   rw [List.getElem?_append_left (by omega),List.getElem?_append_left (by omega)]
   exact this
  ·obtain rfl:k=n:=by omega
   simp only [List.getD_eq_getElem?_getD]
   rw [List.getElem?_append_right (by omega),List.getElem?_append_left (by omega)]
   rw [show l.length+k-(V.M.back far k l).length=0 by omega,hlen]
   rfl
def partF (d:Nat) (b:List Nat):List Tok:=if 3≤b.length then [⟨0,b.length,d⟩] else b.map fun c=>⟨c,0,0⟩
theorem lits_ex (b:List Nat):∀ l,V.M.ex (b.map fun c=>(⟨c,0,0⟩:Tok)) l=some (l++b):=by
 induction b with
 | nil=>intro l;simp [V.M.ex]
 | cons c b ih=>
  intro l
  rw [List.map_cons,V.M.ex,if_pos ⟨.inl ⟨rfl,rfl⟩,Nat.zero_le _⟩,ih]
  simp [V.M.one]
structure Apt (bs ends:List Nat) (PR:List Tok) (a:Nat):Prop where
 ex:V.M.ex PR []=some (bs.take a)
 ok:∀ t∈PR,TkOk t
 cut:∀ e∈ends,e≤a→∃ j,j≤PR.length∧V.M.sum (PR.take j)=e
 le:a≤bs.length
section
variable {bs ends:List Nat}
theorem Apt.start (hp:∀ e∈ends,0<e):Apt bs ends [] 0:=⟨rfl,(fun t h=>by cases h),(fun e he h=>by have:=hp e he;omega),Nat.zero_le _⟩
theorem Apt.app {PR Q:List Tok} {a m:Nat} (h:Apt bs ends PR a) (hq:V.M.ex Q (bs.take a)=some (bs.take (a+m))) (hok:∀ t∈Q,TkOk t) (hm:a+m≤bs.length) (hno:∀ e∈ends,e≤a∨a+m≤e):Apt bs ends (PR++Q) (a+m):=by
 have hx:V.M.ex (PR++Q) []=some (bs.take (a+m)):=by rw [V.M.ex_append,h.ex];exact hq
 refine ⟨hx,fun t ht=>?_,fun e he hle=>?_,hm⟩
 ·rcases List.mem_append.1 ht with h1 | h1
  ·exact h.ok t h1
  ·exact hok t h1
 ·rcases hno e he with h1 | h1
  ·obtain ⟨j,hj,hs⟩:=h.cut e he h1
   refine ⟨j,by rw [List.length_append];omega,?_⟩
   rw [List.take_append_of_le_length hj]
   exact hs
  ·refine ⟨(PR++Q).length,Nat.le_refl _,?_⟩
   rw [List.take_length]
   have:=V.M.ex_len hx
   rw [List.length_take,Nat.min_eq_left hm] at this
   simp at this
   omega
def Far (bs:List Nat) (d a m:Nat):Prop:=1≤d∧d≤a∧d≤32768∧m≤258∧∀ k,k<m→bs.getD (a+k) 0=bs.getD (a+k-d) 0
theorem Apt.part {PR:List Tok} {a m d:Nat} (hbs:Bs bs) (h:Apt bs ends PR a) (hm:a+m≤bs.length) (hno:∀ e∈ends,e≤a∨a+m≤e) (hf:3≤m→Far bs d a m):Apt bs ends (PR++partF d ((bs.drop a).take m)) (a+m):=by
 have hlen:((bs.drop a).take m).length=m:=by rw [List.length_take,List.length_drop];omega
 have htk:bs.take (a+m)=bs.take a++(bs.drop a).take m:=List.take_add
 refine h.app ?_ ?_ hm hno
 ·unfold partF
  rw [hlen]
  split
  ·rename_i h3
   obtain ⟨f1,f2,f3,f4,f5⟩:=hf h3
   rw [V.M.ex,if_pos ⟨.inr ⟨h3,f4,f1,f3,rfl⟩,by rw [List.length_take];show d≤_;omega⟩,V.M.one_copy bs a d m (by omega) hm f1 f2 f5]
   rfl
  ·rw [lits_ex,htk]
 ·intro t ht
  unfold partF at ht
  rw [hlen] at ht
  split at ht
  ·rename_i h3
   obtain ⟨f1,f2,f3,f4,f5⟩:=hf h3
   rw [List.mem_singleton] at ht
   subst ht
   exact ⟨.inr ⟨h3,f4,f1,f3,rfl⟩,Nat.zero_lt_succ _⟩
  ·obtain ⟨c,hc,rfl⟩:=List.mem_map.1 ht
   exact ⟨.inl ⟨rfl,rfl⟩,hbs c (List.mem_of_mem_drop (List.mem_of_mem_take hc))⟩
theorem far_tok {R:List Tok} (hx:V.M.ex R []=some bs) {k:Nat} (hk:k<R.length):(V.tk R k).len=0∧V.M.tells (V.tk R k)=1∧V.M.sum (R.take k)+1≤bs.length ∨
  V.M.tells (V.tk R k)=(V.tk R k).len∧V.M.sum (R.take k)+(V.tk R k).len≤bs.length∧Far bs (V.tk R k).dist (V.M.sum (R.take k)) (V.tk R k).len:=by
 obtain ⟨t,ht⟩:∃ t,t=V.tk R k:=⟨_,rfl⟩
 rw [←ht]
 have h1:=V.M.ex_first hx k
 have h2:=V.M.ex_first hx (k+1)
 rw [V.tk_take R k hk,←ht,V.M.ex_snoc h1.1,V.M.sum_snoc] at h2
 obtain ⟨a,ha⟩:∃ a,a=V.M.sum (R.take k):=⟨_,rfl⟩
 rw [←ha] at h1 h2 ⊢
 obtain ⟨h2,h3⟩:=h2
 split at h2
 ·rename_i hr
  have hr1:=hr.1
  have hlt:(bs.take a).length=a:=by rw [List.length_take];omega
  have hd:=hr.2
  rw [hlt] at hd
  have he:=Option.some.inj h2
  by_cases h0:t.len=0
  ·left
   have:V.M.tells t=1:=by unfold V.M.tells;omega
   exact ⟨h0,this,by omega⟩
  ·right
   rcases hr1 with hr1 | hr1
   ·exact absurd hr1.1 h0
   ·have htl:V.M.tells t=t.len:=by unfold V.M.tells;omega
    rw [htl] at h3 he
    refine ⟨htl,h3,hr1.2.2.1,hd,hr1.2.2.2.1,hr1.2.1,fun j hj=>?_⟩
    unfold V.M.one at he
    rw [if_neg h0] at he
    have hb:=back_at t.dist hr1.2.2.1 t.len (bs.take a) (by rw [hlt];exact hd) j hj
    rw [he,hlt] at hb
    simp only [List.getD_eq_getElem?_getD] at hb ⊢
    rw [List.getElem?_take_of_lt (by omega),List.getElem?_take_of_lt (by omega)] at hb
    exact hb
 ·cases h2
theorem Far.on {d a m x k:Nat} (h:Far bs d a m) (hk:x+k≤m):Far bs d (a+x) k:=by
 obtain ⟨f1,f2,f3,f4,f5⟩:=h
 refine ⟨f1,by omega,f3,by omega,fun j hj=>?_⟩
 have:=f5 (x+j) (by omega)
 rwa [←Nat.add_assoc] at this
theorem Apt.done {PR:List Tok} {a:Nat} (h:Apt bs ends PR a) (ha:a=bs.length) (hE:∀ e∈ends,e≤bs.length):AP bs ends PR:=by
 subst ha
 refine ⟨by rw [h.ex,List.take_length],h.ok,fun e he=>h.cut e he (hE e he)⟩
theorem ends_no {n:Nat} (E:Ends n ends) {i a m:Nat} (hi:i<ends.length) (h1:∀ j,j<i→ends.getD j 0≤a) (h2:a+m≤ends.getD i 0):∀ e∈ends,e≤a∨a+m≤e:=by
 intro e he
 obtain ⟨j,hj,rfl⟩:=List.getElem_of_mem he
 rcases Nat.lt_or_ge j i with h | h
 ·left
  have:=h1 j h
  rwa [List.getD_eq_getElem?_getD,List.getElem?_eq_getElem hj] at this
 ·right
  rcases Nat.lt_or_ge i j with h' | h'
  ·have:=List.pairwise_iff_getElem.1 E.asc i j hi hj h'
   rw [List.getD_eq_getElem?_getD,List.getElem?_eq_getElem hi] at h2
   simp only [Option.getD_some] at h2
   omega
  ·obtain rfl:i=j:=by omega
   rwa [List.getD_eq_getElem?_getD,List.getElem?_eq_getElem hi] at h2
end
end Go.Proofs.YtacpfpghokcdlaaGreatDoor
namespace Go.Proofs.YtacpfpghokcdlaaGreatDoor.V
set_option maxRecDepth 100000
section
open Go.RowKit
theorem by_shape {w:World} {v:Value} {xs:List Nat} (h:BySl w v xs):∃ ao c,v = .slice ao xs.length c:=by
 rcases h with ⟨rfl,rfl⟩ | ⟨ad,c,rfl,_⟩
 ·exact ⟨none,0,rfl⟩
 ·exact ⟨some ad,c,rfl⟩
theorem by_cell {w:World} {ao:Option Addr} {n c:Nat} {xs:List Nat} (h:BySl w (.slice ao n c) xs) (j:Nat) (hj:j<xs.length):∃ b off,ao=some ⟨b,off,none⟩∧w.cell? ⟨b,off+j,none⟩=some (.int .u8 (xs.getD j 0:Nat)):=by
 obtain ⟨b,off,c',he,_,hc⟩:=h.at (by omega)
 simp only [Value.slice.injEq] at he
 exact ⟨b,off,he.1,hc j hj⟩
theorem by_on {w w':World} {v:Value} {xs:List Nat} (h:BySl w v xs) (hb:Below w.heap.size w w'):BySl w' v xs:=h.touch (Touch.of_below hb:Touch (fun _=>False) w w') fun _ _ e=>e
abbrev tv (t:M.Tok):Value := .agg #[.int .u8 (t.lit:Nat),.int .i64 (t.len:Nat),.int .i64 (t.dist:Nat)]
theorem same_step {b:List Nat} {at_ dist n most:Nat} (hd:1≤dist) (hda:dist≤at_) (hn:n<most) (hl:at_+n<b.length) (he:b.getD (at_+n) 0=b.getD (at_+n-dist) 0) :
  M.same b (at_+n) dist (most-n)=1+M.same b (at_+(n+1)) dist (most-(n+1)):=by
 rw [show most-n=(most-(n+1))+1 by omega,M.same,if_pos ⟨hl,hd,by omega,he⟩,Nat.add_assoc]
theorem same_stop {b:List Nat} {at_ dist n most:Nat} (h:¬(n<most∧at_+n<b.length∧b.getD (at_+n) 0=b.getD (at_+n-dist) 0)) :
  M.same b (at_+n) dist (most-n)=0:=by
 by_cases hn:n<most
 ·rw [show most-n=(most-(n+1))+1 by omega,M.same,if_neg (fun e=>h ⟨hn,e.1,e.2.2.2⟩)]
 ·rw [show most-n=0 by omega];rfl
theorem pSame_stop {b:List Nat} {at_ dist n most:Nat} (_hm:most≤b.length-at_) (h:¬(n<most∧b.getD (at_+n) 0=b.getD (at_+n-dist) 0)):M.same b (at_+n) dist (most-n)=0:=
 same_stop fun e=>h ⟨e.1,e.2.2⟩
theorem same_cut (b:List Nat) (dist:Nat):∀ most at_,M.same b at_ dist (min most (b.length-at_))=M.same b at_ dist most:=by
 intro most
 induction most with
 | zero=>intro at_;rw [Nat.zero_min]
 | succ m ih=>
  intro at_
  by_cases h:at_<b.length
  ·rw [show min (m+1) (b.length-at_)=min m (b.length-(at_+1))+1 by omega,M.same,M.same,ih]
  ·rw [show min (m+1) (b.length-at_)=0 by omega,M.same,M.same,if_neg (fun e=>h e.1)]
set_option maxHeartbeats 1600000 in
theorem pSame_some (ao:Option Addr) (c:Nat) (bs:List Nat) (at_ dist most:Nat) (w:World) (h:BySl w (.slice ao bs.length c) bs) (hl:bs.length≤1000000) (ha:at_<bs.length) (h1:1≤dist) (h2:dist≤at_) (_hm:most≤1000000) :
  Calls Tryz.prog 156 #[.slice ao bs.length c,.int .i64 at_,.int .i64 dist,.int .i64 most] w fun e w'=>e = .returned (.int .i64 (M.same bs at_ dist most:Nat))∧∃ q,w'=w.drewN q:=by
 have HS:=Lib.hid h
 obtain ⟨mo,hmo⟩:∃ mo,mo=min most (bs.length-at_):=⟨_,rfl⟩
 have hsm:=same_cut bs dist most at_
 rw [←hmo] at hsm
 have HST:=Lib.hid fun n hn hl he=>same_step (b:=bs) (at_:=at_) (dist:=dist) (n:=n) (most:=mo) h1 h2 hn hl he
 have HSP:=Lib.hid fun n hn=>pSame_stop (b:=bs) (at_:=at_) (dist:=dist) (n:=n) (most:=mo) (by omega) hn
 obtain ⟨L,hL⟩:∃ L,L=bs.length:=⟨_,rfl⟩
 have HL:=Lib.hid hL
 obtain ⟨S,hS⟩:∃ S,S=M.same bs at_ dist most:=⟨_,rfl⟩
 have HSM:Hid (S=0+M.same bs (at_+0) dist (mo-0)):=Lib.hid (by rw [hS,←hsm];simp)
 rw [←hS]
 rw [←hL] at hl ha hmo ⊢
 have hmb:mo≤L-at_:=by omega
 have ha':(at_:Int)<L:=by omega
 have hge:decide ((L:Int)≤at_)=false:=by simp;omega
 have hge':decide (L≤at_)=false:=by simp;omega
 have h1':(1:Int)≤dist:=by omega
 have h2':(dist:Int)≤at_:=by omega
 have d1:decide ((dist:Int)<1)=false:=by simp;omega
 have d2:decide ((at_:Int)<dist)=false:=by simp;omega
 have d2':decide (at_<dist)=false:=by simp;omega
 have d3:decide ((at_:Int)<0)=false:=by simp
 have e0:IntKind.i64.wrap ((L:Int)-at_)=((L-at_:Nat):Int):=by rw [IntKind.wrap_i64];omega
 have hcm:min (most:Int) ((L-at_:Nat):Int)=(mo:Int):=by omega
 have HCM:=Lib.hid hcm
 have HMO:=Lib.hid hmo
 clear h hL hS hsm hmo hcm
 go_enter Tryz.func156,Tryz.ntmps156
 go_upto_region 3 with fail
 go_cut [3] from 33 (fun s3 wx=>s3 = .int .i64 (mo:Nat)∧wx=w)
 case first=>
  go_wp2
  all_goals
   have hcm:=HCM.out
   go_meet
   case rel=>exact ⟨by first | rfl | (congr 1 <;> omega),rfl⟩
 case rest=>
 obtain ⟨rfl,hwx⟩:=hcut
 rw [hwx]
 go_wp2
 go_loopg [9] (mo+1) (fun gm v9 wr=>∃ n q:Nat,n≤mo∧mo+1-n≤gm∧v9 = .int .i64 (n:Nat)∧wr=w.drewN q∧Hid (S=n+M.same bs (at_+n) dist (mo-n)))
 case atStart=>exact ⟨0,0,Nat.zero_le _,by omega,rfl,rfl,HSM⟩
 case round=>
  clear HSM
  obtain ⟨n,q,hn,hgm,rfl,rfl,HS1⟩:=hrel
  by_cases c1:n<mo
  ·have c1':(n:Int)<mo:=by omega
   have c2:at_+n<L:=by omega
   have c2':(at_:Int)+n<L:=by omega
   obtain ⟨b1,off,rfl,g1⟩:=by_cell HS.out (at_+n) (by rw [←HL.out];exact c2)
   obtain ⟨b2,off2,he,g2⟩:=by_cell HS.out (at_+n-dist) (by rw [←HL.out];omega)
   simp only [Option.some.injEq,Addr.mk.injEq,and_true] at he
   obtain ⟨rfl,rfl⟩:=he
   obtain ⟨x,hx⟩:∃ x,x=bs.getD (at_+n) 0:=⟨_,rfl⟩
   obtain ⟨y,hy⟩:∃ y,y=bs.getD (at_+n-dist) 0:=⟨_,rfl⟩
   rw [←hx] at g1
   rw [←hy] at g2
   obtain ⟨k,hk⟩:∃ k,k=at_+n-dist:=⟨_,rfl⟩
   rw [←hk] at g2
   have e1:IntKind.i64.wrap ((at_:Int)+n)=(at_:Int)+n:=by rw [IntKind.wrap_i64];omega
   have e2:(0:Int)≤(at_:Int)+n:=by omega
   have e3:((at_:Int)+n).toNat=at_+n:=by omega
   have e4:(at_:Int)+n-dist=(k:Int):=by omega
   have e5:IntKind.i64.wrap ((at_:Int)+n-dist)=(k:Int):=by rw [IntKind.wrap_i64];omega
   have e6:(k:Int)<L:=by omega
   have HXY:=Lib.hid (And.intro hx hy)
   clear hx hy hk
   by_cases hxy:x=y
   ·subst hxy
    have dxy:((x:Int) == x)=true:=by simp
    go_wp2
    go_quiet (fail)
    go_wp2
    go_roundg (mo+1-(n+1))
    case measure=>omega
    case rel=>
     refine ⟨n+1,_,by omega,Nat.le_refl _,by simp,rfl,Lib.hid ?_⟩
     rw [HS1.out,HST.out n c1 (by rw [←HL.out];exact c2) (by rw [←HXY.out.1,←HXY.out.2])]
     omega
   ·have dxy:((x:Int) == y)=false:=by simp;omega
    have HE:Hid (S=n):=Lib.hid (by rw [HS1.out,HSP.out n (fun e=>hxy (by rw [HXY.out.1,HXY.out.2];exact e.2))];rfl)
    clear hxy
    go_wp2
    go_quiet (fail)
    go_wp2
    go_ret
    exact ⟨by obtain rfl:=HE.out;rfl,_,World.drewN_drewN _ _ _⟩
  ·have c1':decide ((n:Int)<mo)=false:=by simp;omega
   have c1'':decide (n<mo)=false:=by simp;omega
   have HE:Hid (S=n):=Lib.hid (by rw [HS1.out,HSP.out n (fun e=>c1 e.1)];rfl)
   clear c1
   go_wp2
   go_quiet (fail)
   go_wp2
   go_ret
   exact ⟨by obtain rfl:=HE.out;rfl,_,World.drewN_drewN _ _ _⟩
theorem pSame_any (w:World) (v:Value) (bs:List Nat) (at_ dist most:Nat) (h:BySl w v bs) (hl:bs.length≤1000000) (ha:at_<bs.length) (h1:1≤dist) (h2:dist≤at_) (_hm:most≤1000000) :
  Calls Tryz.prog 156 #[v,.int .i64 at_,.int .i64 dist,.int .i64 most] w fun e w'=>e = .returned (.int .i64 (M.same bs at_ dist most:Nat))∧∃ q,w'=w.drewN q:=by
 obtain ⟨ao,c,rfl⟩:=by_shape h
 exact pSame_some ao c bs at_ dist most w h hl ha h1 h2 _hm
theorem span_any (t:M.Tok) (w:World) (h2:t.len≤1000000) :
  Calls Tryz.prog 125 #[tv t] w fun e w'=>e = .returned (.int .i64 (M.tells t:Nat))∧Below w.heap.size w w':=by
 obtain ⟨a,b,d⟩:=t
 simp only at h2
 have B1:=Lib.hid ((Below.refl w.heap.size w).alloc (Nat.le_refl _) (.cells #[.int .u8 (a:Nat),.int .i64 (b:Nat),.int .i64 (d:Nat)] 128))
 obtain ⟨T,hT⟩:∃ T,T=M.tells ⟨a,b,d⟩:=⟨_,rfl⟩
 have HT:=Lib.hid (show max (b:Int) 1=(T:Int) by rw [hT];unfold M.tells;simp only;omega)
 rw [←hT]
 clear hT
 go_enter Tryz.func125,Tryz.ntmps125
 have hm:=HT.out
 go_wp2
 all_goals
  go_ret
  exact ⟨by first | rfl | (congr 2;omega) | (simp;omega),B1.out⟩
end
end Go.Proofs.YtacpfpghokcdlaaGreatDoor.V
namespace Go.Proofs.YtacpfpghokcdlaaGreatDoor.V.M
set_option maxRecDepth 100000
def key3 (b:List Nat) (n:Nat):Nat:=b.getD n 0+256*b.getD (n+1) 0+65536*b.getD (n+2) 0
theorem key3_lt {b:List Nat} (h:∀ x∈b,x<256) (n:Nat):key3 b n<16777216:=by
 have g:∀ i,b.getD i 0<256:=fun i=>by
  rw [List.getD_eq_getElem?_getD]
  cases hi:b[i]? with
  | none=>simp
  | some x=>simpa using h x (List.mem_of_getElem? hi)
 have:=g n
 have:=g (n+1)
 have:=g (n+2)
 unfold key3
 omega
def lastP (b:List Nat) (k:Nat):Nat→Option Nat
 | 0=>none
 | n+1=>if key3 b n=k then some n else lastP b k n
theorem lastP_is {b:List Nat} {k:Nat}:∀ {n p:Nat},lastP b k n=some p→p<n∧key3 b p=k:=by
 intro n
 induction n with
 | zero=>intro p h;cases h
 | succ n ih=>
  intro p h
  rw [lastP] at h
  split at h
  ·cases h;exact ⟨Nat.lt_succ_self _,by assumption⟩
  ·have:=ih h;exact ⟨by omega,this.2⟩
theorem lastP_ge {b:List Nat} {k q:Nat}:∀ {n:Nat},q<n→key3 b q=k→∃ p,lastP b k n=some p∧q≤p:=by
 intro n
 induction n with
 | zero=>intro h _;omega
 | succ n ih=>
  intro h hk
  rw [lastP]
  split
  ·exact ⟨n,rfl,by omega⟩
  ·have:q≠n:=fun e=>by subst e;contradiction
   exact ih (by omega) hk
def pv (b:List Nat) (k n:Nat):Int:=match lastP b k n with | none => -1 | some p=>(p:Int)
theorem pv_bd (b:List Nat) (k n:Nat) : -1≤pv b k n∧pv b k n<n:=by
 unfold pv
 cases h:lastP b k n with
 | none=>simp only;omega
 | some p=>have:=(lastP_is h).1;simp only;omega
theorem pv_key {b:List Nat} {k n p:Nat} (h:pv b k n=(p:Int)):key3 b p=k:=by
 unfold pv at h
 cases hl:lastP b k n with
 | none=>rw [hl] at h;simp only at h;omega
 | some q=>
  rw [hl] at h
  simp only at h
  obtain rfl:q=p:=by omega
  exact (lastP_is hl).2
theorem pv_ge {b:List Nat} {k q n:Nat} (h:q<n) (hk:key3 b q=k):(q:Int)≤pv b k n:=by
 obtain ⟨p,hp,hq⟩:=lastP_ge h hk
 unfold pv
 rw [hp]
 simp only
 omega
theorem four_key {b:List Nat} {at_ d:Nat} (h:four b at_ d):key3 b (at_-d)=key3 b at_:=by
 obtain ⟨_,h1,h2,h3⟩:=h
 have a0:=h3 0 (by omega)
 have a1:=h3 1 (by omega)
 have a2:=h3 2 (by omega)
 unfold key3
 rw [show at_-d+1=at_+1-d by omega,show at_-d+2=at_+2-d by omega,←a1,←a2]
 simp only [Nat.add_zero] at a0
 rw [←a0]
theorem same_ge (b:List Nat) (dist:Nat):∀ most at_ n,n≤most→at_+n≤b.length→1≤dist→dist≤at_→(∀ k,k<n→b.getD (at_+k) 0=b.getD (at_+k-dist) 0)→n≤same b at_ dist most:=by
 intro most
 induction most with
 | zero=>intro at_ n h _ _ _ _;rw [same];exact h
 | succ m ih=>
  intro at_ n hn hl h1 h2 hs
  cases n with
  | zero=>omega
  | succ n=>
   have h0:=hs 0 (by omega)
   rw [Nat.add_zero] at h0
   rw [same,if_pos ⟨by omega,h1,h2,h0⟩]
   have:=ih (at_+1) n (by omega) (by omega) h1 (by omega) fun k hk=>by
    have:=hs (k+1) (by omega)
    rwa [show at_+(k+1)=at_+1+k by omega] at this
   omega
def Cop (b:List Nat) (at_ L D:Nat):Prop:=1≤D∧D≤at_∧D≤32768∧at_+L≤b.length∧∀ k,k<L→b.getD (at_+k) 0=b.getD (at_+k-D) 0
structure Lk (b:List Nat) (at_ most:Nat) (cop:Bool) (pl:Int) (left L D:Nat):Prop where
 low : -1≤pl
 high:pl<at_
 le:L≤most
 best:(L=0∧D=0)∨Cop b at_ L D
 keyed:∀ p:Nat,pl=p→key3 b p=key3 b at_
 look:cop=false→∀ d,four b at_ d→((at_-d:Nat):Int)≤pl∨4≤L
 many:cop=false→pl+32769≤at_+left
theorem Lk.start {b:List Nat} {at_ most:Nat} {cop:Bool} {left:Nat} (hc:cop=false→left=32768):Lk b at_ most cop (pv b (key3 b at_) at_) left 0 0:=by
 have:=pv_bd b (key3 b at_) at_
 refine ⟨this.1,this.2,Nat.zero_le _,.inl ⟨rfl,rfl⟩,fun p h=>pv_key h,fun _ d h => .inl ?_,fun h=>?_⟩
 ·refine pv_ge ?_ (four_key h)
  have:=h.2.1
  have:=h.2.2.1
  omega
 ·rw [hc h];omega
theorem Lk.none {b:List Nat} {at_ most:Nat} {cop:Bool} {left:Nat} (hc:cop=false→left=32768) (hl:b.length<at_+3):Lk b at_ most cop (-1) left 0 0:=by
 refine ⟨Int.le_refl _,by omega,Nat.zero_le _,.inl ⟨rfl,rfl⟩,fun p h=>by omega,fun _ d h=>?_,fun h=>?_⟩
 ·have:=h.1;omega
 ·rw [hc h];omega
theorem Lk.next {b:List Nat} {at_ most:Nat} {cop:Bool} {p left L D L' D':Nat} (h:Lk b at_ most cop p (left+1) L D) (hL:L≤L') (hm:L'≤most) (hb:(L'=0∧D'=0)∨Cop b at_ L' D') (h4:four b at_ (at_-p)→4≤L') :
  Lk b at_ most cop (pv b (key3 b p) p) left L' D':=by
 have hk:=h.keyed p rfl
 have hbd:=pv_bd b (key3 b p) p
 have hh:=h.high
 refine ⟨hbd.1,by omega,hm,hb,fun q hq=>by rw [pv_key hq,hk],fun hc d hf=>?_,fun hc=>?_⟩
 ·rcases h.look hc d hf with h1 | h1
  ·by_cases e:at_-d=p
   ·right
    apply h4
    have h2:=hf.2.2.1
    rw [show at_-p=d by omega]
    exact hf
   ·left
    exact pv_ge (by omega) (by rw [four_key hf,hk])
  ·exact .inr (by omega)
 ·have:=h.many hc
  omega
theorem Lk.done {b:List Nat} {at_ most:Nat} {cop:Bool} {pl:Int} {left L D:Nat} (h:Lk b at_ most cop pl left L D) (hc:cop=false) (hm:most=min 258 (b.length-at_)) (ha:at_≤32768)
  (hend:left=0∨most≤L∨pl = -1):L≤3→∀ d,¬four b at_ d:=by
 intro hL d hf
 rcases h.look hc d hf with h1 | h1
 ·rcases hend with e | e | e
  ·have:=h.many hc
   omega
  ·have:=hf.1
   omega
  ·omega
 ·omega
theorem four_byte {b:List Nat} {at_ p L:Nat} (h:four b at_ (at_-p)) (hp:p<at_) (hne:b.getD (p+L) 0≠b.getD (at_+L) 0):4≤L:=by
 refine Decidable.byContradiction fun hL=>hne ?_
 have:=h.2.2.2 L (by omega)
 rw [this,show at_+L-(at_-p)=p+L by omega]
theorem four_same {b:List Nat} {at_ p most:Nat} (h:four b at_ (at_-p)) (hm:4≤most):4≤same b at_ (at_-p) most:=
 same_ge b _ most at_ 4 hm h.1 h.2.1 h.2.2.1 h.2.2.2
theorem cop_same {b:List Nat} {at_ p most:Nat} (hp:p<at_) (ha:at_≤32768) (hl:at_≤b.length):Cop b at_ (same b at_ (at_-p) most) (at_-p):=
 ⟨by omega,by omega,by omega,same_end b _ most at_ hl,fun k hk=>(same_at b _ most at_ k hk).1⟩
def srch (b:List Nat) (at_ most:Nat):Nat→Int→Nat→Nat→Nat × Nat
 | 0,_,L,D=>(L,D)
 | left+1,pl,L,D=>
  if L<most∧pl ≠ -1 then
   if b.getD (pl.toNat+L) 0=b.getD (at_+L) 0∧L<same b at_ (at_-pl.toNat) most then srch b at_ most left (pv b (key3 b pl.toNat) pl.toNat) (same b at_ (at_-pl.toNat) most) (at_-pl.toNat)
   else srch b at_ most left (pv b (key3 b pl.toNat) pl.toNat) L D
  else (L,D)
theorem srch_stop {b:List Nat} {at_ most left L D:Nat} {pl:Int} (h:left=0∨most≤L∨pl = -1):srch b at_ most left pl L D=(L,D):=by
 cases left with
 | zero=>rfl
 | succ n=>rw [srch,if_neg (by omega)]
theorem srch_yes {b:List Nat} {at_ most left p L D:Nat} (hL:L<most) (he:b.getD (p+L) 0=b.getD (at_+L) 0) (hn:L<same b at_ (at_-p) most) :
  srch b at_ most (left+1) p L D=srch b at_ most left (pv b (key3 b p) p) (same b at_ (at_-p) most) (at_-p):=by
 rw [srch,if_pos ⟨hL,by omega⟩,Int.toNat_natCast,if_pos ⟨he,hn⟩]
theorem srch_no {b:List Nat} {at_ most left p L D:Nat} (hL:L<most) (h:¬(b.getD (p+L) 0=b.getD (at_+L) 0∧L<same b at_ (at_-p) most)) :
  srch b at_ most (left+1) p L D=srch b at_ most left (pv b (key3 b p) p) L D:=by
 rw [srch,if_pos ⟨hL,by omega⟩,Int.toNat_natCast,if_neg h]
structure Sof (b:List Nat) (at_:Nat) (r:List Tok) (cop:Bool):Prop where
 ex:ex r []=some (b.take at_)
 le:at_≤b.length
 lit:∀ t∈r,t.lit<256
 yes:cop=true→∃ t∈r,t.len≠0
 no:cop=false→∀ a,a<at_→∀ d,¬four b a d
structure Told (b:List Nat) (at_:Nat) (cop:Bool) (t:Tok):Prop where
 is:t=⟨b.getD at_ 0,0,0⟩∨(t.lit=0∧3≤t.len∧t.len≤258∧Cop b at_ t.len t.dist)
 no:cop=false→t.len=0→∀ d,¬four b at_ d
theorem Sof.start (b:List Nat):Sof b 0 [] false:=⟨rfl,Nat.zero_le _,(fun t h=>by cases h),(fun h=>by cases h),(fun _ a h=>by omega)⟩
theorem Told.lit {b:List Nat} {at_:Nat} {cop:Bool} (hc:cop=true):Told b at_ cop ⟨b.getD at_ 0,0,0⟩:=⟨.inl rfl,fun h=>by rw [hc] at h;cases h⟩
theorem Told.tells {b:List Nat} {at_:Nat} {cop:Bool} {t:Tok} (h:Told b at_ cop t) (ha:at_<b.length):at_+M.tells t≤b.length∧M.tells t≤258:=by
 rcases h.is with rfl | ⟨_,h3,h4,h5⟩
 ·unfold M.tells;simp only;omega
 ·have:=h5.2.2.2.1
  unfold M.tells
  omega
theorem Sof.step {b:List Nat} {at_:Nat} {r:List Tok} {cop:Bool} {t:Tok} (hb:∀ x∈b,x<256) (h:Sof b at_ r cop) (k:Told b at_ cop t) (ha:at_<b.length):Sof b (at_+M.tells t) (r++[t]) (cop || decide (0<t.len)):=by
 have hl:(b.take at_).length=at_:=by rw [List.length_take];omega
 refine ⟨?_,(k.tells ha).1,?_,?_,?_⟩
 ·rw [ex_snoc h.ex,hl]
  rcases k.is with rfl | ⟨h0,h3,h4,h5⟩
  ·rw [if_pos ⟨.inl ⟨rfl,rfl⟩,Nat.zero_le _⟩,one_lit b at_ ha];rfl
  ·obtain ⟨a1,l1,d1⟩:=t
   simp only at h0 h3 h4 h5
   subst h0
   rw [if_pos ⟨.inr ⟨h3,h4,h5.1,h5.2.2.1,rfl⟩,h5.2.1⟩,one_copy b at_ d1 l1 (by omega) h5.2.2.2.1 h5.1 h5.2.1 h5.2.2.2.2]
   unfold M.tells
   simp only
   rw [Nat.max_eq_left (by omega)]
 ·intro u hu
  rcases List.mem_append.1 hu with hu | hu
  ·exact h.lit u hu
  ·obtain rfl:=List.mem_singleton.1 hu
   rcases k.is with e | ⟨h0,_⟩
   ·rw [e]
    simp only
    rw [List.getD_eq_getElem?_getD]
    cases hi:b[at_]? with
    | none=>simp
    | some x=>simpa using hb x (List.mem_of_getElem? hi)
   ·rw [h0];omega
 ·intro hc
  rcases Bool.or_eq_true _ _ ▸ hc with hc | hc
  ·obtain ⟨u,hu,h0⟩:=h.yes hc
   exact ⟨u,List.mem_append_left _ hu,h0⟩
  ·exact ⟨t,List.mem_append_right _ (List.mem_singleton.2 rfl),by have:=of_decide_eq_true hc;omega⟩
 ·intro hc a hla d
  obtain ⟨h1,h2⟩:=Bool.or_eq_false_iff.1 hc
  have h0:t.len=0:=by have:=of_decide_eq_false h2;omega
  have ht:M.tells t=1:=by unfold M.tells;rw [h0];rfl
  rw [ht] at hla
  by_cases e:a<at_
  ·exact h.no h1 a e d
  ·obtain rfl:a=at_:=by omega
   exact k.no h1 h0 d
theorem Sof.done {b:List Nat} {at_:Nat} {r:List Tok} {cop:Bool} (h:Sof b at_ r cop) (ha:b.length≤at_):M.ex r []=some b∧((∃ t∈r,t.len≠0)∨NoFour b):=by
 obtain rfl:at_=b.length:=Nat.le_antisymm h.le ha
 refine ⟨by have:=h.ex;rwa [List.take_length] at this,?_⟩
 cases cop with
 | true=>exact .inl (h.yes rfl)
 | false=>
  refine .inr fun a d _ hf=>h.no rfl a ?_ d hf
  have:=hf.1
  omega
end Go.Proofs.YtacpfpghokcdlaaGreatDoor.V.M
