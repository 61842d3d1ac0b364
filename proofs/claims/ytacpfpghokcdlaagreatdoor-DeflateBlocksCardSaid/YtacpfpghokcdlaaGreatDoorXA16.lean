/- Part 16. -/
import Derived.ChangeOld
import Derived.ChangeSame
import Derived.Defers
import Derived.LaidMore
import Derived.Lay
import Derived.Lib.LaidTab
import Derived.Lib.SlBytesConst
import Derived.ProofKit
import Derived.Recover
import Derived.SevenTiedAt
import Derived.ShutString
import Derived.SizedLaws
import Derived.Stop.Joined
import Derived.Stop.LaidErr
import Derived.Test.YtacpfpghokcdlaaGreatDoorCards
import Derived.Test.YtacpfpghokcdlaaGreatDoorTie
import Derived.Test.YtacpfpghokcdlaaGreatDoorXA15
namespace Go.Proofs.YtacpfpghokcdlaaGreatDoor
set_option maxRecDepth 100000
def flF (r:List Tok):List Nat:=(bldF (cfL r) 15).take (trz 257 (bldF (cfL r) 15) 286)
def olF (r:List Tok):List Nat:=(bldF (coL r) 15).take (trz 1 (bldF (coL r) 15) 30)
theorem usesF (r:List Tok):uses (cfL r)≤2^15:=by have:=uses_le (cfL r);rw [cfL_len] at this;omega
theorem usesO (r:List Tok):uses (coL r)≤2^15:=by have:=uses_le (coL r);rw [coL_len] at this;omega
theorem flF_len (r:List Tok):(flF r).length=trz 257 (bldF (cfL r) 15) 286:=by
 have:=trz_le 257 (bldF (cfL r) 15) 286
 unfold flF
 rw [List.length_take,bld_len,cfL_len];omega
theorem olF_len (r:List Tok):(olF r).length=trz 1 (bldF (coL r) 15) 30:=by
 have:=trz_le 1 (bldF (coL r) 15) 30
 unfold olF
 rw [List.length_take,bld_len,coL_len];omega
theorem flF_b (r:List Tok):257≤(flF r).length∧(flF r).length≤286:=by
 rw [flF_len];exact ⟨trz_ge _ _ _ (by omega),trz_le _ _ _⟩
theorem olF_b (r:List Tok):1≤(olF r).length∧(olF r).length≤30:=by
 rw [olF_len];exact ⟨trz_ge _ _ _ (by omega),trz_le _ _ _⟩
theorem fl_zero (r:List Tok):∀ i,trz 257 (bldF (cfL r) 15) 286≤i→i<(bldF (cfL r) 15).length→(bldF (cfL r) 15).getD i 0=0:=by
 rw [bld_len,cfL_len];exact trz_zero _ _ _
theorem ol_zero (r:List Tok):∀ i,trz 1 (bldF (coL r) 15) 30≤i→i<(bldF (coL r) 15).length→(bldF (coL r) 15).getD i 0=0:=by
 rw [bld_len,coL_len];exact trz_zero _ _ _
theorem flF_ln (r:List Tok) (y:Nat):ln (flF r) y=ln (bldF (cfL r) 15) y:=ln_take (fl_zero r) y
theorem olF_ln (r:List Tok) (y:Nat):ln (olF r) y=ln (bldF (coL r) 15) y:=ln_take (ol_zero r) y
theorem flF_15 (r:List Tok):∀ x∈flF r,x≤15:=fun x hx=>bld_le (by omega) (usesF r) x (List.mem_of_mem_take hx)
theorem olF_15 (r:List Tok):∀ x∈olF r,x≤15:=fun x hx=>bld_le (by omega) (usesO r) x (List.mem_of_mem_take hx)
theorem flF_room (r:List Tok):room (flF r)=room (bldF (cfL r) 15):=room_cn (cn_take (fl_zero r))
theorem olF_room (r:List Tok):room (olF r)=room (bldF (coL r) 15):=room_cn (cn_take (ol_zero r))
theorem flF_many (r:List Tok):many (flF r)=many (bldF (cfL r) 15):=many_cn (cn_take (fl_zero r))
theorem olF_many (r:List Tok):many (olF r)=many (bldF (coL r) 15):=many_cn (cn_take (ol_zero r))
theorem flF_ok (r:List Tok):Ok (flF r):=⟨by have:=(flF_b r).2;omega,flF_15 r,by rw [flF_room];exact (bld_ok (by rw [cfL_len];omega) ⟨by omega,by omega⟩ (usesF r)).few⟩
theorem olF_ok (r:List Tok):Ok (olF r):=⟨by have:=(olF_b r).2;omega,olF_15 r,by rw [olF_room];exact (bld_ok (by rw [coL_len];omega) ⟨by omega,by omega⟩ (usesO r)).few⟩
theorem flF_256 (r:List Tok):ln (flF r) 256≠0:=by
 rw [flF_ln]
 have:=bld_pos (ns:=cfL r) (lim:=15) (by omega) (usesF r) (s:=256) (by rw [cfL_at r (by omega),if_pos rfl];omega)
 omega
theorem flF_sym {r:List Tok} {t:Tok} (h:TkOk t) (ht:t∈r):ln (flF r) (fsy t)≠0:=by
 rw [flF_ln]
 have:=bld_pos (ns:=cfL r) (lim:=15) (by omega) (usesF r) (s:=fsy t) (by rw [cfL_at r h.fsy.1];have:=cntF_pos ht;omega)
 omega
theorem olF_sym {r:List Tok} {t:Tok} (h:TkOk t) (ht:t∈r) (h0:t.len≠0):ln (olF r) (dsy t.dist)≠0:=by
 rw [olF_ln]
 have:=bld_pos (ns:=coL r) (lim:=15) (by omega) (usesO r) (s:=dsy t.dist) (by rw [coL_at r (h.dsy h0)];exact cntO_pos ht h0)
 omega
theorem one_in {ls:List Nat} {s:Nat} (h:ln ls s=1):1∈ls:=by
 unfold ln at h
 rcases Nat.lt_or_ge s ls.length with e | e
 ·rw [List.getD_eq_getElem?_getD,List.getElem?_eq_getElem e] at h
  have h':ls[s]=1:=h
  rw [←h'];exact List.getElem_mem e
 ·rw [List.getD_eq_getElem?_getD,List.getElem?_eq_none e] at h;cases h
theorem flF_whole (r:List Tok):whole (flF r)=true:=by
 unfold whole
 rw [decide_eq_true_eq,flF_room,flF_many]
 have h1:1≤uses (cfL r):=uses_one (a:=256) (by rw [cfL_at r (by omega),if_pos rfl];omega)
 rcases bld_whole (lim:=15) ⟨by omega,by omega⟩ (usesF r) h1 with h | ⟨h,s,hs⟩
 ·exact .inl h
 ·exact .inr ⟨h,one_in (s:=s) (by rw [flF_ln];exact hs)⟩
theorem olF_whole (r:List Tok):whole (olF r)=true∨many (olF r)=0:=by
 by_cases h0:uses (coL r)=0
 ·right;rw [olF_many,bld_many ⟨by omega,by omega⟩ (usesO r),h0]
 ·left
  unfold whole
  rw [decide_eq_true_eq,olF_room,olF_many]
  rcases bld_whole (lim:=15) ⟨by omega,by omega⟩ (usesO r) (by omega) with h | ⟨h,s,hs⟩
  ·exact .inl h
  ·exact .inr ⟨h,one_in (s:=s) (by rw [olF_ln];exact hs)⟩
def rowF (r:List Tok):List Nat:=flF r++olF r
theorem rowF_b (r:List Tok):258≤(rowF r).length∧(rowF r).length≤316:=by
 have:=flF_b r;have:=olF_b r
 unfold rowF;rw [List.length_append];omega
theorem rowF_15 (r:List Tok):∀ x∈rowF r,x≤15:=fun x hx=>by
 rcases List.mem_append.1 hx with h | h
 ·exact flF_15 r x h
 ·exact olF_15 r x h
theorem rowF_256 (r:List Tok):(rowF r).getD 256 0≠0:=by
 have h1:=flF_256 r
 have h2:=flF_b r
 unfold ln at h1
 unfold rowF
 rwa [List.getD_eq_getElem?_getD,List.getElem?_append_left (by omega),←List.getD_eq_getElem?_getD]
theorem rowF_fits (r:List Tok):fits (rowF r) (flF r).length=true:=by
 unfold fits rowF
 rw [List.take_left,List.drop_left,flF_whole,Bool.and_true,decide_eq_true ⟨(flF_ok r).few,(olF_ok r).few⟩,Bool.true_and]
 rcases olF_whole r with h | h
 ·rw [h,Bool.true_or]
 ·rw [decide_eq_true h,Bool.or_true]
def itsZ (row:List Nat):List (Int × Int):=Y.pkl (Y.ints row)
def nt (x:Int × Int):Nat × Nat:=(x.1.toNat,x.2.toNat)
def itsF (row:List Nat):List (Nat × Nat):=(itsZ row).map nt
theorem pk_mem {zs:List Int} {x:Int × Int}:∀ (f a:Nat),x∈Y.pk zs f a→∃ b,b<zs.length∧x=Y.pit zs b:=by
 intro f
 induction f with
 | zero=>intro a h;rw [Y.pk] at h;cases h
 | succ f ih=>
  intro a h
  rw [Y.pk] at h
  split at h
  ·rename_i ha
   rcases List.mem_cons.1 h with h | h
   ·exact ⟨a,ha,h⟩
   ·exact ih _ h
  ·cases h
theorem ints_b {row:List Nat} (h15:∀ x∈row,x≤15):∀ k,k<(Y.ints row).length→0≤(Y.ints row).getD k 0∧(Y.ints row).getD k 0≤15:=by
 intro k hk
 rw [Y.ints_len] at hk
 rw [Y.ints_at]
 have:row.getD k 0≤15:=by
  rw [List.getD_eq_getElem?_getD,List.getElem?_eq_getElem hk]
  exact h15 _ (List.getElem_mem hk)
 omega
structure ItF (x:Int × Int):Prop where
 sym:0≤x.1∧x.1≤18
 ext:0≤x.2
 small:(x.1<16→x.2=0)∧(x.1=16→x.2<4)∧(x.1=17→x.2<8)∧(x.1=18→x.2<128)
theorem its_it {row:List Nat} (h15:∀ x∈row,x≤15) (hl:row.length≤320) {x:Int × Int} (hx:x∈itsZ row):ItF x:=by
 obtain ⟨b,hb,rfl⟩:=pk_mem _ _ hx
 have hw:=Y.pit_ok (by rw [Y.ints_len];exact hl) hb (ints_b h15 b hb)
 unfold Y.Wi Y.Bad at hw
 have h1:0≤Y.lsym (Y.ints row) b∧Y.lsym (Y.ints row) b≤18:=by omega
 have h2:((Y.lmany (Y.ints row) b-Y.spl (Y.lsym (Y.ints row) b):Nat):Int)≤(Y.spm (Y.lsym (Y.ints row) b):Int)-Y.spl (Y.lsym (Y.ints row) b):=by omega
 unfold Y.pit
 generalize Y.lsym (Y.ints row) b=s at *
 generalize ((Y.lmany (Y.ints row) b-Y.spl s:Nat))=e at *
 refine ⟨h1,by simp only;omega,?_,?_,?_,?_⟩
 ·intro h
  simp only at h ⊢
  rw [Y.spm,Y.spl,if_neg (by omega),if_neg (by omega),if_neg (by omega),if_neg (by omega),if_neg (by omega),if_neg (by omega)] at h2
  omega
 ·intro h
  simp only at h ⊢
  rw [Y.spm,Y.spl,if_pos h,if_pos h] at h2
  omega
 ·intro h
  simp only at h ⊢
  rw [Y.spm,Y.spl,if_neg (by omega),if_pos h,if_neg (by omega),if_pos h] at h2
  omega
 ·intro h
  simp only at h ⊢
  rw [Y.spm,Y.spl,if_neg (by omega),if_neg (by omega),if_pos h,if_neg (by omega),if_neg (by omega),if_pos h] at h2
  omega
theorem ints_app (a b:List Nat):Y.ints a++Y.ints b=Y.ints (a++b):=by simp [Y.ints]
theorem ints_rep (n x:Nat):List.replicate n (x:Int)=Y.ints (List.replicate n x):=by simp [Y.ints]
theorem un_un:∀ (its:List (Int × Int)) (ts:List Nat) (zs:List Int),(∀ x∈its,ItF x)→Y.un its (Y.ints ts)=some zs→∃ full,zs=Y.ints full∧unT (its.map nt) ts=some full:=by
 intro its
 induction its with
 | nil=>
  intro ts zs _ h
  rw [Y.un] at h
  cases h
  exact ⟨ts,rfl,rfl⟩
 | cons x its ih=>
  intro ts zs hx h
  obtain ⟨s,e⟩:=x
  have hi:=hx (s,e) (List.mem_cons_self ..)
  obtain ⟨hs,he,h1,h2,h3,h4⟩:=hi
  simp only at hs he h1 h2 h3 h4
  rw [Y.un] at h
  split at h
  ·cases h
  ·rename_i hw
   unfold Y.Wi Y.Bad at hw
   rw [Y.ints_len] at hw
   obtain ⟨S,rfl⟩:=Int.eq_ofNat_of_zero_le hs.1
   obtain ⟨E,rfl⟩:=Int.eq_ofNat_of_zero_le he
   have key:∃ t,told S E ts=some t∧List.replicate ((Y.spl (S:Int):Int)+(E:Int)).toNat (Y.tv (S:Int) (Y.ints ts))=Y.ints t:=by
    by_cases c16:S<16
    ·have e0:E=0:=by have:=h1 (by omega);omega
     refine ⟨[S],by unfold told;rw [if_pos c16],?_⟩
     unfold Y.spl Y.tv
     rw [if_neg (by omega),if_neg (by omega),if_neg (by omega),if_neg (by omega),if_neg (by omega),if_neg (by omega),e0]
     rfl
    ·by_cases c2:S=16
     ·subst c2
      have hne:ts≠[]:=fun e=>by subst e;simp at hw
      refine ⟨List.replicate (3+E) (ts.getLastD 0),by unfold told;rw [if_neg (by omega),if_pos rfl,if_neg hne],?_⟩
      rw [←ints_rep]
      unfold Y.spl Y.tv
      rw [if_pos (by rfl),if_pos (by rfl),Y.ints_len,Y.ints_at]
      have eL:ts.getLastD 0=ts.getD (ts.length-1) 0:=by
       rw [List.getLastD_eq_getLast?,List.getLast?_eq_getElem?,List.getD_eq_getElem?_getD]
      rw [eL]
      congr 1
     ·by_cases c3:S=17
      ·subst c3
       refine ⟨List.replicate (3+E) 0,by unfold told;rw [if_neg (by omega),if_neg (by omega),if_pos rfl],?_⟩
       rw [←ints_rep]
       unfold Y.spl Y.tv
       rw [if_neg (by omega),if_pos (by rfl),if_neg (by omega),if_pos (by rfl)]
       congr 1
      ·obtain rfl:S=18:=by omega
       refine ⟨List.replicate (11+E) 0,by unfold told;rw [if_neg (by omega),if_neg (by omega),if_neg (by omega),if_pos rfl],?_⟩
       rw [←ints_rep]
       unfold Y.spl Y.tv
       rw [if_neg (by omega),if_neg (by omega),if_pos (by rfl),if_neg (by omega),if_neg (by omega),if_pos (by rfl)]
       congr 1
   obtain ⟨t,ht,hr⟩:=key
   rw [hr,ints_app] at h
   obtain ⟨full,hf,hu⟩:=ih (ts++t) zs (fun y hy=>hx y (List.mem_cons_of_mem _ hy)) h
   refine ⟨full,hf,?_⟩
   rw [List.map_cons,unT]
   show (match told S E ts with | none=>none | some t=>unT (its.map nt) (ts++t))=some full
   rw [ht]
   exact hu
theorem ints_inj {a b:List Nat} (h:Y.ints a=Y.ints b):a=b:=by
 apply List.ext_getElem?
 intro i
 have:=congrArg (fun l:List Int=>l[i]?) h
 simp only [Y.ints,List.getElem?_map] at this
 cases ha:a[i]? <;> cases hb:b[i]? <;> simp [ha,hb] at this ⊢
 omega
theorem its_un {row:List Nat} (h15:∀ x∈row,x≤15) (hl:row.length≤320):unT (itsF row) []=some row:=by
 have h:=Y.un_pkl (zs:=Y.ints row) (by rw [Y.ints_len];exact hl) (ints_b h15)
 obtain ⟨full,hf,hu⟩:=un_un (Y.pkl (Y.ints row)) [] (Y.ints row) (fun x hx=>its_it h15 hl hx) h
 rw [←ints_inj hf] at hu
 exact hu
theorem itsF_ok {row:List Nat} (h15:∀ x∈row,x≤15) (hl:row.length≤320) {x:Nat × Nat} (hx:x∈itsF row):x.1≤18∧(16≤x.1∧x.1≤18→x.2<2^xb x.1)∧(¬(16≤x.1∧x.1≤18)→x.2=0):=by
 obtain ⟨z,hz,rfl⟩:=List.mem_map.1 hx
 obtain ⟨hs,he,h1,h2,h3,h4⟩:=its_it h15 hl hz
 refine ⟨by show z.1.toNat≤18;omega,fun h=>?_,fun h=>?_⟩
 ·show z.2.toNat<2^xb z.1.toNat
  have h':16≤z.1.toNat∧z.1.toNat≤18:=h
  unfold xb
  by_cases a:z.1.toNat=16
  ·rw [if_pos a];have:=h2 (by omega);omega
  ·rw [if_neg a]
   by_cases b:z.1.toNat=17
   ·rw [if_pos b];have:=h3 (by omega);omega
   ·rw [if_neg b,if_pos (by omega)];have:=h4 (by omega);omega
 ·have h':¬(16≤z.1.toNat∧z.1.toNat≤18):=h
  show z.2.toNat=0
  have:=h1 (by omega)
  omega
theorem unT_one (y:Nat):∀ (its:List (Nat × Nat)) (row full:List Nat),(∀ x∈its,x.1=y)→unT its row=some full→
  (y<16→full=row++List.replicate its.length y)∧(17≤y→∃ n,full=row++List.replicate n 0):=by
 intro its
 induction its with
 | nil=>intro row full _ h;cases h;exact ⟨fun _=>by simp,fun _=>⟨0,by simp⟩⟩
 | cons x its ih=>
  intro row full hx h
  have h0:=hx x (List.mem_cons_self ..)
  rw [unT] at h
  cases ht:told x.1 x.2 row with
  | none=>rw [ht] at h;cases h
  | some t=>
   rw [ht] at h
   obtain ⟨i1,i2⟩:=ih (row++t) full (fun z hz=>hx z (List.mem_cons_of_mem _ hz)) h
   rw [h0] at ht
   refine ⟨fun hy=>?_,fun hy=>?_⟩
   ·unfold told at ht
    rw [if_pos hy] at ht
    cases ht
    rw [i1 hy,List.append_assoc,List.length_cons,List.replicate_succ];rfl
   ·obtain ⟨n,hn⟩:=i2 hy
    have:∃ m,t=List.replicate m 0:=by
     unfold told at ht
     rw [if_neg (by omega),if_neg (by omega)] at ht
     split at ht
     ·cases ht;exact ⟨_,rfl⟩
     ·split at ht
      ·cases ht;exact ⟨_,rfl⟩
      ·cases ht
    obtain ⟨m,rfl⟩:=this
    exact ⟨m+n,by rw [hn,List.append_assoc,List.replicate_append_replicate]⟩
theorem its_two {row:List Nat} (h15:∀ x∈row,x≤15) (hl:258≤row.length∧row.length≤320) (h256:row.getD 256 0≠0):∃ x∈itsF row,∃ z∈itsF row,x.1≠z.1:=by
 have hu:=its_un h15 hl.2
 refine Classical.byContradiction fun hc=>?_
 have hall:∀ x∈itsF row,∀ z∈itsF row,x.1=z.1:=fun x hx z hz=>Classical.byContradiction fun hn=>hc ⟨x,hx,z,hz,hn⟩
 match hd:itsF row with
 | []=>
  rw [hd] at hu
  cases hu
  simp at hl
 | x::rest=>
  have hall':∀ z∈x::rest,z.1=x.1:=fun z hz=>hall z (by rw [hd];exact hz) x (by rw [hd];exact List.mem_cons_self ..)
  rw [hd] at hu
  obtain ⟨i1,i2⟩:=unT_one x.1 (x::rest) [] row hall' hu
  rcases Nat.lt_or_ge x.1 16 with hy | hy
  ·have he:=i1 hy
   rw [List.nil_append] at he
   obtain ⟨n,hn⟩:∃ n,n=(x::rest).length:=⟨_,rfl⟩
   rw [←hn] at he
   have hn2:n=row.length:=by rw [he,List.length_replicate]
   have hat:∀ k,k<row.length→(Y.ints row).getD k 0=(x.1:Int):=fun k hk=>by
    rw [Y.ints_at,he,List.getD_eq_getElem?_getD,List.getElem?_replicate,if_pos (by omega)];rfl
   have hy0:x.1≠0:=by
    have:=hat 256 (by omega)
    rw [Y.ints_at] at this
    omega
   have hz:∀ k,k<(Y.ints row).length→(Y.ints row).getD k 0≤15:=fun k hk=>(ints_b h15 k hk).2
   have hil:=Y.ints_len row
   have hrl:∀ k,k+3≤row.length→3≤Y.rl (Y.ints row) k:=fun k hk=>by
    refine Classical.byContradiction fun hlt=>?_
    have h1:=Y.rl_stop (zs:=Y.ints row) (a:=k) (by rw [hil];omega)
    have h2:=hat (k+Y.rl (Y.ints row) k) (by omega)
    have h3:=hat k (by omega)
    exact h1 (by rw [h2,h3])
   have s0:Y.lsym (Y.ints row) 0=(x.1:Int):=by
    unfold Y.lsym
    rw [hat 0 (by omega),if_neg (by omega),if_neg (by omega),if_neg (by omega)]
   have m0:Y.lmany (Y.ints row) 0=1:=by
    unfold Y.lmany
    rw [s0]
    have h1:=hrl 0 (by omega)
    rw [Y.spm,if_neg (by omega),if_neg (by omega),if_neg (by omega)]
    omega
   have s1:Y.lsym (Y.ints row) 1=16:=by
    unfold Y.lsym
    rw [hat 1 (by omega),show 1-1=0 from rfl,hat 0 (by omega),if_neg (by omega),if_neg (by omega),if_pos ⟨by omega,hrl 1 (by omega),by omega,rfl⟩]
   have hp:itsZ row=Y.pit (Y.ints row) 0::Y.pit (Y.ints row) 1::Y.pk (Y.ints row) ((Y.ints row).length-(1+Y.lmany (Y.ints row) 1)) (1+Y.lmany (Y.ints row) 1):=by
    unfold itsZ Y.pkl
    have a:=Y.pk_step hz (a:=0) (by rw [hil];omega)
    rw [Nat.sub_zero] at a
    rw [a,m0,Nat.zero_add,Y.pk_step hz (a:=1) (by rw [hil];omega)]
   have h16:nt (Y.pit (Y.ints row) 1)∈itsF row:=by
    unfold itsF
    rw [hp]
    simp
   have:=hall' _ (by rw [←hd];exact h16)
   unfold nt Y.pit at this
   rw [s1] at this
   have:(16:Nat)=x.1:=this
   omega
  ·rcases Nat.lt_or_ge x.1 17 with h17 | h17
   ·have h16:x.1=16:=by omega
    rw [unT,show told x.1 x.2 []=none by unfold told;rw [if_neg (by omega),if_pos h16,if_pos rfl]] at hu
    cases hu
   ·obtain ⟨n,hn⟩:=i2 h17
    apply h256
    rw [hn,List.nil_append,List.getD_eq_getElem?_getD,List.getElem?_replicate]
    split <;> rfl
section
open Go.RowKit
section
variable {B K p pb:Nat} {g:Option Nat} {bs:List Nat} {lim:Nat} {w:World} {ov:Value} {s:Sta}
def BT (B p pb:Nat) (g:Option Nat) (bs:List Nat) (lim:Nat) (w:World) (ov:Value) (r:Res Unit) (e:Ending) (w':World):Prop:=
 match r with
 | .bad er=>RBad p pb w ov er e w'
 | .ok _ s=>e = .returned (.tuple #[])∧∃ K' ov',K'≤w'.heap.size∧RS B K' p pb g bs lim w' ov' s∧Mv p pb w ov w' ov'
theorem BT.bad {R:Res Unit} {er:Nat} {w':World} (e:R = .bad er) (ht:Touch (FT p pb ov) w w'):BT B p pb g bs lim w ov R (pan er) w':=by
 subst e;exact ⟨rfl,ht⟩
theorem BT.of {R:Res Unit} {w1 w':World} {ov1:Value} {e:Ending} (hK:K≤w1.heap.size) (m:Mv p pb w ov w1 ov1) (h:RTo B K p pb g bs lim w1 ov1 uv R e w'):(∃ er,e=pan er∧BT B p pb g bs lim w ov R (pan er) w')∨(e = .returned (.tuple #[])∧BT B p pb g bs lim w ov R (.returned (.tuple #[])) w'):=by
 cases R with
 | bad er=>
  obtain ⟨rfl,ht⟩:=h
  exact .inl ⟨er,rfl,rfl,m.bad ht⟩
 | ok u s1=>
  obtain ⟨rfl,ov2,h2,m2⟩:=h
  exact .inr ⟨rfl,rfl,K,ov2,Nat.le_trans hK m2.touch.size,h2,m.trans m2⟩
set_option maxHeartbeats 3200000 in
theorem block_any (hK:K≤w.heap.size) (hB:2<B) (hT:Tab w) (h:RS B K p pb g bs lim w ov s) :
  Calls Tryz.prog 39 #[.pointer (some ⟨p,0,none⟩)] w (BT B p pb g bs lim w ov (blk bs lim s)):=by
 obtain ⟨R,hR⟩:∃ R,R=blk bs lim s:=⟨_,rfl⟩
 rw [←hR]
 unfold blk at hR
 have HR:=Lib.hid hR
 have H:=Lib.hid h
 have HT:=Lib.hid hT
 have HB:=Lib.hid hB
 have HK:=Lib.hid hK
 clear hR h hT hB hK
 go_enter Tryz.func39,Tryz.ntmps39
 go_wp2_with fail
 refine (number_any H.out 2 (by omega)).mono ?_
 rintro e w1 h1
 have hR:=HR.out
 cases hr1:rdN bs 2 s with
 | bad er=>
  rw [hr1] at h1 hR
  obtain ⟨rfl,ht⟩:=h1
  have HR1:=Lib.hid hR
  clear hr1 hR
  go_wp2
  exact ⟨rfl,BT.bad HR1.out ht⟩
 | ok k s1=>
 rw [hr1] at h1
 rw [hr1,Res.bind_ok] at hR
 obtain ⟨rfl,ov1,h1,m1⟩:=h1
 have hk4:k<4:=rdN_lt hr1
 have HR1:=Lib.hid hR
 have H1:=Lib.hid h1
 have M1:=Lib.hid m1
 have HK1:=Lib.hid (Nat.le_trans HK.out m1.touch.size)
 have HT1:Hid (Tab w1):=Lib.hid (HT.out.touch m1.touch fun h0=>by have:=H.out.base 2 h0;have:=HB.out;omega)
 clear hr1 hR h1 m1 HR
 rcases (by omega:k=0∨k=1∨k=2∨k=3) with rfl | rfl | rfl | rfl
 ·have hR:=HR1.out
  rw [if_pos rfl] at hR
  have HR2:=Lib.hid hR
  clear hR
  go_wp2_with fail
  refine (stored_any H1.out).mono ?_
  rintro e w2 h2
  rw [←HR2.out] at h2
  rcases BT.of HK1.out M1.out h2 with ⟨er,rfl,h3⟩ | ⟨rfl,h3⟩
  ·have H3:=Lib.hid h3
   clear h2 h3
   go_wp2
   exact ⟨rfl,H3.out⟩
  ·have H3:=Lib.hid h3
   clear h2 h3
   go_wp2
   go_end0
   exact H3.out
 ·have hR:=HR1.out
  rw [if_neg (by decide),if_pos rfl] at hR
  have HR2:=Lib.hid hR
  clear hR
  go_wp2_with fail
  refine (fixedCodes_any H1.out HK1.out).mono ?_
  rintro e w2 ⟨p1,p2,rfl,hc1,hc2,⟨K2,hK2,h2⟩,m2⟩
  have HC1:=Lib.hid hc1
  have HC2:=Lib.hid hc2
  have H2:=Lib.hid h2
  have M2:=Lib.hid (M1.out.trans m2)
  have HK2:=Lib.hid hK2
  clear hc1 hc2 h2 m2 hK2
  go_wp2_with fail
  refine (symbols_any H2.out HC1.out HC2.out).mono ?_
  rintro e w3 h3
  rw [←HR2.out] at h3
  rcases BT.of HK2.out M2.out h3 with ⟨er,rfl,h4⟩ | ⟨rfl,h4⟩
  ·have H3:=Lib.hid h4
   clear h3 h4
   go_wp2
   exact ⟨rfl,H3.out⟩
  ·have H3:=Lib.hid h4
   clear h3 h4
   go_wp2
   go_end0
   exact H3.out
 ·have hR:=HR1.out
  rw [if_neg (by decide),if_neg (by decide),if_pos rfl] at hR
  have HR2:=Lib.hid hR
  clear hR
  go_wp2_with fail
  refine (toldCodes_any HK1.out HB.out HT1.out H1.out).mono ?_
  rintro e w2 h2
  have hR:=HR2.out
  cases hr2:codes bs s1 with
  | bad er=>
   rw [hr2] at h2 hR
   obtain ⟨rfl,ht⟩:=h2
   have HR3:=Lib.hid hR
   clear hr2 hR
   go_wp2
   exact ⟨rfl,BT.bad HR3.out (M1.out.bad ht)⟩
  | ok c s2=>
  rw [hr2] at h2
  rw [hr2,Res.bind_ok] at hR
  obtain ⟨p1,p2,rfl,hc1,hc2,ov2,h2,m2⟩:=h2
  have HR3:=Lib.hid hR
  have HC1:=Lib.hid hc1
  have HC2:=Lib.hid hc2
  have H2:=Lib.hid h2
  have M2:=Lib.hid (M1.out.trans m2)
  have HK2:=Lib.hid (Nat.le_trans HK1.out m2.touch.size)
  clear hr2 hR hc1 hc2 h2 m2
  go_wp2_with fail
  refine (symbols_any H2.out HC1.out HC2.out).mono ?_
  rintro e w3 h3
  rw [←HR3.out] at h3
  rcases BT.of HK2.out M2.out h3 with ⟨er,rfl,h4⟩ | ⟨rfl,h4⟩
  ·have H3:=Lib.hid h4
   clear h3 h4
   go_wp2
   exact ⟨rfl,H3.out⟩
  ·have H3:=Lib.hid h4
   clear h3 h4
   go_wp2
   go_end0
   exact H3.out
 ·have hR:=HR1.out
  rw [if_neg (by decide),if_neg (by decide),if_neg (by decide)] at hR
  have HR2:=Lib.hid hR
  clear hR
  go_wp2
  exact ⟨rfl,BT.bad (er:=10) HR2.out M1.out.touch⟩
end
theorem catch_panicking (q:Nat) (er:Nat) (w:World) (x:Int) (hc:w.cell? ⟨q,0,none⟩=some (.int .i64 x)) (hz:w.frozen? ⟨q,0,none⟩=false) :
  CallsD Tryz.prog 37 #[.pointer (some ⟨q,0,none⟩)] (.panicking [{ v := .iface 68 (.int .i64 (er:Nat)),recovered:=false }]) w fun e u' w'=>
   e = .returned (.tuple #[])∧u' = .panicking [{ v := .iface 68 (.int .i64 (er:Nat)),recovered:=true }]∧w'=w.setCell ⟨q,0,none⟩ (.int .i64 (er:Nat)):=by
 refine callsD_of_wpS Tryz.func37 rfl fun c₀ cs hu=>?_
 apply wpS_seq
 apply wpS_region
 simp [wpOpsS,go_sem,recoverD,hu,Tryz.ntmps37,Exit.thenS]
 refine wpS_of_wp ?_
 have hta:∀ W:World,(Instr.typeAssert (.iface 68 (.int .i64 (er:Nat))) 20 68 true).run Tryz.prog W = .ok (.tuple #[.int .i64 (er:Nat),.bool true]) W:=fun _=>by
  kernel_rfl
 simp only [Array.replicate,List.replicate,List.setIfInBounds_toArray,List.append_toArray]
 go_wp2
 simp [bodyPostS,results,Tryz.results37]
theorem catch_idle (q:Nat) (w:World) :
  CallsD Tryz.prog 37 #[.pointer (some ⟨q,0,none⟩)] .returning w fun e u' w'=>
   e = .returned (.tuple #[])∧u' = .returning∧w'=w:=by
 refine callsD_of_wpS Tryz.func37 rfl fun c₀ cs hu=>?_
 apply wpS_seq
 apply wpS_region
 simp [wpOpsS,go_sem,recoverD,hu,Tryz.ntmps37,Exit.thenS]
 refine wpS_of_wp ?_
 have hta:∀ W:World,(Instr.typeAssert .nilIface 20 68 true).run Tryz.prog W = .ok (.tuple #[.int .i64 0,.bool false]) W:=fun _=>by
  kernel_rfl
 simp only [Array.replicate,List.replicate,List.setIfInBounds_toArray,List.append_toArray]
 go_wp2
 simp [bodyPostS,results,Tryz.results37]
 obtain ⟨f,t,td,df,md,kd,rd⟩:=c₀
 simp at hu
 simp [hu]
section
variable {bs:List Nat} {lim:Nat} {α β : Type}
def NZ (L:Nat) (f:Sta→Res α):Prop:=∀ s er,s.at_≤L→f s = .bad er→er≠0
theorem NZ.bind {L:Nat} {f:Sta→Res α} {k : α → Sta→Res β} (h:NZ L f) (hp:Pr L 0 f) (hk:∀ a,NZ L (k a)):NZ L fun s=>(f s).bind k:=by
 intro s er hs hb
 cases hr:f s with
 | bad e=>
  simp only [hr,Res.bind_bad,Res.bad.injEq] at hb
  subst hb
  exact h s e hs hr
 | ok a s1=>
  simp only [hr,Res.bind_ok] at hb
  exact hk a s1 er (hp s a s1 hs hr).end_ hb
theorem NZ.run {L:Nat} {f : α → Sta→Res (Bool × α)} (hf:Takes L f) (h:∀ a,NZ L (f a)) (a : α):NZ L (YtacpfpghokcdlaaGreatDoor.run L f a):=by
 have key:∀ n s a er,L-s.at_≤n→s.at_≤L→YtacpfpghokcdlaaGreatDoor.run L f a s = .bad er→er≠0:=by
  intro n
  induction n with
  | zero=>
   intro s a er hn hs hr
   rw [run_eq hf a hs] at hr
   cases hx:f a s with
   | bad e=>
    simp only [hx,Res.bind_bad,Res.bad.injEq] at hr
    subst hr
    exact h a s e hs hx
   | ok x s'=>have:=hf a s x s' hs hx;omega
  | succ n ih=>
   intro s a er hn hs hr
   rw [run_eq hf a hs] at hr
   cases hx:f a s with
   | bad e=>
    simp only [hx,Res.bind_bad,Res.bad.injEq] at hr
    subst hr
    exact h a s e hs hx
   | ok x s'=>
    have h3:=hf a s x s' hs hx
    simp only [hx,Res.bind_ok] at hr
    split at hr
    ·cases hr
    ·exact ih s' x.2 er (by omega) h3.2 hr
 intro s er hs hr
 exact key _ s a er (Nat.le_refl _) hs hr
theorem rdN_nz {L:Nat} (n:Nat):NZ L (rdN bs n):=by
 intro s er _ h
 unfold rdN at h
 split at h <;> cases h
 decide
theorem rdS_nz {L:Nat} (ls:List Nat):NZ L (rdS bs ls):=by
 intro s er _ h
 unfold rdS at h
 split at h
 ·cases h;decide
 ·split at h
  ·cases h;decide
  ·split at h <;> cases h
   decide
theorem grown_nz (o:Option (Nat × Nat)):NZ (8*bs.length) (grown bs o):=by
 cases o with
 | none=>intro s er _ h;cases h;decide
 | some x=>exact (rdN_nz x.2).bind (rdN_pr _) fun v s er _ h=>by cases h
theorem again_nz (ol:List Nat) (y:Nat):NZ (8*bs.length) (again bs lim ol y):=by
 refine (grown_nz _).bind (grown_pr _) fun n=>?_
 refine (rdS_nz _).bind (rdS_pr _) fun d=>?_
 refine (grown_nz _).bind (grown_pr _) fun far s er _ h=>?_
 split at h
 ·cases h;decide
 ·split at h <;> cases h
  decide
theorem sym1_nz (fl ol:List Nat) (u:Unit):NZ (8*bs.length) (sym1 bs lim fl ol u):=by
 refine (rdS_nz _).bind (rdS_pr _) fun y s er hs h=>?_
 split at h
 ·split at h <;> cases h
  decide
 ·split at h
  ·cases h
  ·cases hr:again bs lim ol y { s with steps:=s.steps+1 } with
   | bad e=>
    simp only [hr,Res.bind_bad,Res.bad.injEq] at h
    subst h
    exact again_nz ol y { s with steps:=s.steps+1 } e hs hr
   | ok u s2=>simp only [hr,Res.bind_ok] at h;cases h
theorem syms_nz (fl ol:List Nat):NZ (8*bs.length) (syms bs lim fl ol):=NZ.run (sym1_takes fl ol) (sym1_nz fl ol) ()
theorem stored_nz:NZ (8*bs.length) (stored bs lim):=by
 intro s er hs h
 have hk:=((rdN_nz (bs:=bs) (L:=8*bs.length) 16).bind (rdN_pr (lim:=0) 16) (k:=fun n s1=>(rdN bs 16 s1).bind fun m s2=>
  if m≠65535-n then .bad 10 else if 8*bs.length<s2.at_+8*n then .bad 15 else if lim<s2.out.length+n then .bad 14
  else .ok () { s2 with at_:=s2.at_+8*n,out:=s2.out++(bs.drop (s2.at_/8)).take n,steps:=s2.steps+n }) fun n=>by
   refine (rdN_nz 16).bind (rdN_pr 16) fun m s2 er _ h=>?_
   split at h
   ·cases h;decide
   ·split at h
    ·cases h;decide
    ·split at h <;> cases h
     decide)
 exact hk { s with at_:=up8 s.at_ } er (up8_end hs) h
theorem itm_nz (own:List Nat):NZ (8*bs.length) (itm bs own):=by
 refine (rdS_nz _).bind (rdS_pr _) fun y=>?_
 intro s er hs h
 split at h
 ·exact ((rdN_nz (xb y)).bind (rdN_pr _) (k:=fun v s2 => .ok (y,v) s2) fun v s er _ h=>by cases h) s er hs h
 ·cases h
theorem len1_nz (own:List Nat) (n:Nat) (row:List Nat):NZ (8*bs.length) (len1 bs own n row):=by
 refine (itm_nz own).bind (fun s a t hs h=>(itm_le own hs h).2) fun x s er hs h=>?_
 split at h
 ·cases h;decide
 ·split at h <;> cases h
  decide
theorem lens_nz (own:List Nat) (n:Nat):NZ (8*bs.length) (lens bs own n):=NZ.run (len1_takes own n) (len1_nz own n) []
theorem rdO_nz (k:Nat):∀ l,NZ (8*bs.length) (rdO bs k l):=by
 induction k with
 | zero=>intro l s er _ h;cases h
 | succ k ih=>intro l;exact (rdN_nz 3).bind (rdN_pr 3) fun v=>ih _
theorem codes_nz:NZ (8*bs.length) (codes bs):=by
 refine (rdN_nz 5).bind (rdN_pr 5) fun l=>?_
 refine (rdN_nz 5).bind (rdN_pr 5) fun d=>?_
 refine (rdN_nz 4).bind (rdN_pr 4) fun c s er hs h=>?_
 split at h
 ·cases h;decide
 ·refine ((rdO_nz (4+c) []).bind (rdO_pr (4+c) []) fun o s er hs h=>?_) s er hs h
  split at h
  ·cases h;decide
  ·refine ((lens_nz (ownOf o) (258+l+d)).bind (lens_pr (ownOf o) (258+l+d)) fun row s er hs h=>?_) s er hs h
   split at h
   ·cases h;decide
   ·split at h <;> cases h
    decide
theorem blk_nz:NZ (8*bs.length) (blk bs lim):=by
 refine (rdN_nz 2).bind (rdN_pr 2) fun k s er hs h=>?_
 split at h
 ·exact stored_nz s er hs h
 ·split at h
  ·exact syms_nz _ _ s er hs h
  ·split at h
   ·exact (codes_nz.bind codes_pr fun c=>syms_nz c.1 c.2) s er hs h
   ·cases h;decide
theorem blk1_nz (_hb:Bs bs) (u:Unit):NZ (8*bs.length) (blk1 bs lim u):=by
 refine (rdN_nz 1).bind (rdN_pr 1) fun l=>?_
 intro s er hs h
 cases hr:blk bs lim s with
 | bad e=>
  simp only [hr,Res.bind_bad,Res.bad.injEq] at h
  subst h
  exact blk_nz s e hs hr
 | ok u s2=>simp only [hr,Res.bind_ok] at h;cases h
theorem infl_nz (hb:Bs bs) {er:Nat} (h:infl bs lim = .bad er):er≠0:=NZ.run (blk1_takes hb) (blk1_nz hb) () _ er (Nat.zero_le _) h
end
section
variable {B K p pb:Nat} {g:Option Nat} {bs:List Nat} {lim:Nat} {w:World} {ov:Value} {s:Sta}
def rest (bs:List Nat) (lim:Nat) (last:Bool) (s:Sta):Res Unit:=if last then .ok () s else run (8*bs.length) (blk1 bs lim) () s
theorem rest_eq (hb:Bs bs) (hs:s.at_≤8*bs.length):rest bs lim false s=(rdN bs 1 s).bind fun l s1=>(blk bs lim s1).bind fun _ s2=>rest bs lim (decide (l=1)) { s2 with blocks:=s2.blocks+1 }:=by
 unfold rest
 rw [if_neg (by decide),run_eq (blk1_takes hb) () hs]
 unfold blk1
 cases hr:rdN bs 1 s with
 | bad e=>rfl
 | ok l s1=>
  simp only [Res.bind_ok]
  cases hr2:blk bs lim s1 with
  | bad e=>rfl
  | ok u s2=>rfl
structure Bx (B p pb:Nat) (g:Option Nat) (bs:List Nat) (lim:Nat) (w:World) (ov:Value) (q:Nat) (wr:World) (ov':Value) (s':Sta):Prop where
 rs:∃ K,K≤wr.heap.size∧RS B K p pb g bs lim wr ov' s'
 mv:Mv p pb w ov wr ov'
 tab:Tab wr
 err:Blk wr q 28 #[.int .i64 0]
theorem Bx.on {q:Nat} {wr w':World} {ov' ov2:Value} {s' s2:Sta} {K':Nat} (hB:2<B) (h:Bx B p pb g bs lim w ov q wr ov' s') (hK:K'≤w'.heap.size) (k:RS B K' p pb g bs lim w' ov2 s2) (m:Mv p pb wr ov' w' ov2) :
  Bx B p pb g bs lim w ov q w' ov2 s2:=by
 obtain ⟨K0,_,h0⟩:=h.rs
 exact ⟨⟨K',hK,k⟩,h.mv.trans m,h.tab.touch m.touch fun h1=>by have:=h0.base 2 h1;omega,h.err.safe m.touch h0.safe (by decide)⟩
theorem RS.err {q:Nat} {cs:Array Value} (h:RS B K p pb g bs lim w ov s) (hq:Blk w q 28 cs) (x:Value):RS B K p pb g bs lim (w.setCell ⟨q,0,none⟩ x) ov s:=by
 have ht:Touch (fun k=>k=q) w (w.setCell ⟨q,0,none⟩ x):=(Touch.refl _ w).setCell _ _ (.inl rfl)
 have hne:∀ k t cs',Blk w k t cs'→t≠28→k≠q:=by
  rintro k t cs' hk h1 rfl
  rw [Blk,hq] at hk
  simp at hk
  exact h1 hk.2.symm
 obtain ⟨fx,hb,hf⟩:=h.blk
 obtain ⟨sv,ho,hg,hs⟩:=h.ob.blk
 refine ⟨⟨fx,hb.touch ht (hne _ _ _ hb (by decide)),?_⟩,h.ob.touch ht fun k hk=>?_,ownsRow_touch h.own ht fun i hi=>?_,h.hp,h.row,h.len,h.lim_,h.in_,h.out,h.steps,h.blocks,h.bytes⟩
 ·rcases hf with hf | ⟨q',p1,p2,hv,h1,h2,h3,h4⟩
  ·exact .inl hf
  ·exact .inr ⟨q',p1,p2,hv,h1.touch ht (hne _ _ _ h1 (by decide)),h2.aside hq ht ⟨by decide,by decide,fun h=>by cases h⟩,h3.aside hq ht ⟨by decide,by decide,fun h=>by cases h⟩,h4⟩
 ·rcases hk with rfl | hk
  ·exact hne _ _ _ ho (by decide)
  ·rw [←hg] at hk
   obtain ⟨cs',hc⟩:=own_ty hs hk
   exact hne _ _ _ hc (by decide)
 ·obtain ⟨cs',hc⟩:=own_ty h.own hi
  exact hne _ _ _ hc (by decide)
def RA (B p pb:Nat) (g:Option Nat) (bs:List Nat) (lim:Nat) (w:World) (ov:Value) (r:Res Unit) (e:Ending) (w':World):Prop:=
 match r with
 | .bad er=>e = .returned (.int .i64 (er:Nat))∧Touch (FT p pb ov) w w'
 | .ok _ s=>e = .returned (.int .i64 0)∧∃ K' ov',K'≤w'.heap.size∧RS B K' p pb g bs lim w' ov' s∧Mv p pb w ov w' ov'
theorem RA.fail {q:Nat} {w':World} {R:Res Unit} {er:Nat} {tm:Array Value} (hq:w.heap.size≤q) (he:Blk w' q 28 #[.int .i64 0]) (ht:Touch (FT p pb ov) w w') (hR:Res.bad er=R) (h2:tm[2]? = some (.pointer (some ⟨q,0,none⟩))) :
  Leaves Tryz.prog Tryz.f21 tm (RA B p pb g bs lim w ov R) [{ target := .fn (.func 37) #[.pointer (some ⟨q,0,none⟩)],args := #[] }] (.panicking [{ v := .iface 68 (.int .i64 (er:Nat)),recovered:=false }]) w':=by
 have e0:=(he.cell 0).trans (show _=some (.int .i64 0) from rfl)
 have f0:=he.free 0
 refine leaves_cons (f:=37) (args := #[.pointer (some ⟨q,0,none⟩)]) (by simp) (by simp [go_sem]) ?_
 refine (catch_panicking q er _ 0 e0 f0).mono ?_
 rintro e u' w'' ⟨rfl,rfl,rfl⟩
 have hc:(w'.setCell ⟨q,0,none⟩ (.int .i64 (er:Nat))).cell? ⟨q,0,none⟩=some (.int .i64 (er:Nat)):=World.cell?_setCell_same _ _ _ e0
 subst hR
 simp [Leaves,settle,results,Tryz.results21,go_sem,hc,h2]
 exact ⟨rfl,ht.setCell _ _ (.inr hq)⟩
set_option maxHeartbeats 3200000 in
theorem readAll_any (hK:K≤w.heap.size) (hB:2<B) (hT:Tab w) (hb:Bs bs) (h:RS B K p pb g bs lim w ov s) :
  Calls Tryz.prog 21 #[.pointer (some ⟨p,0,none⟩)] w (RA B p pb g bs lim w ov (run (8*bs.length) (blk1 bs lim) () s)):=by
 obtain ⟨R,hR⟩:∃ R,rest bs lim false s=R:=⟨_,rfl⟩
 rw [show run (8*bs.length) (blk1 bs lim) () s=R from hR]
 have hmf:∀ (fn:Fn) (first cap:Array Value) (w:World),(Instr.makeFunc fn first cap).run Tryz.prog w = .ok (.func fn first cap) w:=fun _ _ _ _=>rfl
 obtain ⟨q,hq⟩:∃ q,q=w.heap.size:=⟨_,rfl⟩
 have hin:=h.in_
 obtain ⟨h0,m0⟩:=h.grow ((Below.refl _ w).alloc (Nat.le_refl _) (.cells #[.int .i64 0] 28))
 have hB0:Blk (w.alloc (.cells #[.int .i64 0] 28)) q 28 #[.int .i64 0]:=by rw [hq];exact heap_alloc_new w _
 have X0:=Lib.hid (show Bx B p pb g bs lim w ov q (w.alloc (.cells #[.int .i64 0] 28)) ov s from ⟨⟨K,Nat.le_trans hK m0.touch.size,h0⟩,m0,hT.touch m0.touch fun h1=>by have:=h.base 2 h1;omega,hB0⟩)
 have HR:=Lib.hid hR
 have HB:=Lib.hid hB
 have HBs:=Lib.hid hb
 clear h0 m0 hB0 hR hT hb h hK hB
 go_enter_defers Tryz.func21,Tryz.ntmps21
 go_wp2
 rw [←hq] at ⊢
 have hq2:w.heap.size≤q:=by omega
 clear hq
 go_loopg [3] (8*bs.length+1) (fun gm v wr=>∃ (last:Bool) (ov':Value) (s':Sta),8*bs.length+1-s'.at_≤gm∧v = .bool last∧Hid (rest bs lim last s'=R)∧Bx B p pb g bs lim w ov q wr ov' s')
 case atStart=>exact ⟨false,ov,s,by omega,rfl,HR,X0.out⟩
 case round=>
  clear X0 HR
  obtain ⟨last,ov1,s1,hgm,rfl,HR,hx⟩:=hrel
  have HX:=Lib.hid hx
  have e0:=(hx.err.cell 0).trans (show _=some (.int .i64 0) from rfl)
  have f0:=hx.err.free 0
  cases last with
  | true=>
   have hR:=HR.out
   have HR1:=Lib.hid (show Res.ok () s1=R from hR)
   clear hR HR hx
   go_wp2
   obtain ⟨K1,hk1,hx1⟩:=HX.out.rs
   refine leaves_cons (f:=37) (args := #[.pointer (some ⟨q,0,none⟩)]) (by simp) (by simp [go_sem]) ?_
   refine (catch_idle q _).mono ?_
   rintro e u' w'' ⟨rfl,rfl,rfl⟩
   have hc:(wr.setCell ⟨q,0,none⟩ (.int .i64 0)).cell? ⟨q,0,none⟩=some (.int .i64 0):=World.cell?_setCell_same _ _ _ e0
   simp only [Leaves,settle,results,Tryz.results21,go_sem]
   rw [←HR1.out]
   simp [hc]
   exact ⟨rfl,K1,ov1,by simpa using hk1,hx1.err HX.out.err _,HX.out.mv.touch.setCell _ _ (.inr hq2),HX.out.mv.row⟩
  | false=>
   obtain ⟨K1,hk1,hx1⟩:=hx.rs
   have H1:=Lib.hid hx1
   have hin1:=hx1.in_
   have hR:=HR.out
   rw [rest_eq HBs.out hin1] at hR
   have HR1:=Lib.hid hR
   clear hx hx1 hR HR
   go_wp2_with fail
   refine (number_any H1.out 1 (by omega)).mono ?_
   rintro e w2 h2
   have hR:=HR1.out
   cases hr1:rdN bs 1 s1 with
   | bad er=>
    rw [hr1] at h2 hR
    obtain ⟨rfl,ht⟩:=h2
    have HR2:=Lib.hid (show Res.bad er=R from hR)
    have HT:=Lib.hid (HX.out.mv.bad ht)
    have HE:=Lib.hid (HX.out.err.safe ht H1.out.safe (by decide))
    clear hr1 hR ht e0 f0
    go_wp2
    exact RA.fail hq2 HE.out HT.out HR2.out rfl
   | ok k s2=>
    rw [hr1] at h2
    rw [hr1,Res.bind_ok] at hR
    obtain ⟨rfl,ov2,h2,m2⟩:=h2
    have hk2:k<2:=rdN_lt hr1
    have hin2:=rdN_is hr1
    have hs2:=hin2.2.2
    have hat2:s2.at_=s1.at_+1:=by rw [hs2]
    have hbk2:s2.blocks=s1.blocks:=by rw [hs2]
    have hbk1:=H1.out.blocks
    have HR2:=Lib.hid hR
    have HK2:=Lib.hid (Nat.le_trans hk1 m2.touch.size)
    have X2:=Lib.hid (HX.out.on HB.out HK2.out h2 m2)
    have H2:=Lib.hid h2
    clear hr1 hR e0 f0 HX H1 hk1 hin2 hs2 h2 m2
    go_wp2_with fail
    refine (block_any HK2.out HB.out X2.out.tab H2.out).mono ?_
    rintro e w3 h3
    have hR:=HR2.out
    cases hr2:blk bs lim s2 with
    | bad er=>
     rw [hr2] at h3 hR
     obtain ⟨rfl,ht⟩:=h3
     have HR3:=Lib.hid (show Res.bad er=R from hR)
     have HT:=Lib.hid (X2.out.mv.bad ht)
     have HE:=Lib.hid (X2.out.err.safe ht H2.out.safe (by decide))
     clear hr2 hR ht
     go_wp2
     exact RA.fail hq2 HE.out HT.out HR3.out rfl
    | ok u s3=>
     rw [hr2] at h3 hR
     obtain ⟨rfl,K3,ov3,hk3,h3,m3⟩:=h3
     have hp3:=blk_pr HBs.out _ _ _ H2.out.in_ hr2
     have X3:=Lib.hid (X2.out.on HB.out hk3 h3 m3)
     have c4:=h3.cells.c4
     have f4:=h3.cells.f4
     have hbk:s3.blocks+1≤s3.at_:=by have:=hp3.blocks;omega
     have hln:=h3.len
     have hi3:=h3.in_
     obtain ⟨h4,m4⟩:=h3.setBlocks (s3.blocks+1) hbk (x:=(s3.blocks:Int)+1) (by simp)
     have X4:=Lib.hid (X3.out.on HB.out (Nat.le_trans hk3 m4.touch.size) h4 m4)
     have HR3:=Lib.hid hR
     have hat3:=hp3.at_
     clear hr2 hR h3 m3 h4 m4 X2 X3 HR2 H2 hp3 hk3
     go_wp2
     go_roundg (8*bs.length+1-s3.at_)
     case measure=>omega
     case rel=>
      refine ⟨decide (k=1),ov3,{ s3 with blocks:=s3.blocks+1 },Nat.le_refl _,?_,HR3,X4.out⟩
      rcases (by omega:k=0∨k=1) with rfl | rfl <;> rfl
end
theorem res21 {t:Array Value} {W:World} {q:Nat} {x0 x1 x2 x3 er:Value} (h4:t[4]? = some (.pointer (some ⟨q,0,none⟩))) (h5:t[5]? = some er) (h:Blk W q 27 #[x0,x1,x2,x3]) :
  (results Tryz.f12 t).run Tryz.prog W = .ok (.tuple #[.agg #[x0,x1,x2,x3],er]) W:=by
 have e0:=(h.cell 0).trans (show _=some x0 from rfl)
 have e1:=(h.cell 1).trans (show _=some x1 from rfl)
 have e2:=(h.cell 2).trans (show _=some x2 from rfl)
 have e3:=(h.cell 3).trans (show _=some x3 from rfl)
 simp [results,Tryz.results12,h4,h5,go_sem,e0,e1,e2,e3]
theorem far_ok {S:Nat→Prop} {w w3 w4:World} {b:Nat} (h1:Touch S w w3) (h2:Touch (fun k=>b≤k) w3 w4) (hb:b=w.heap.size) (h0:∀ k,¬S k) (x0 x1 x2 x3:Value) :
  Below b w ((((w4.setCell ⟨b,0,none⟩ x0).setCell ⟨b,1,none⟩ x1).setCell ⟨b,2,none⟩ x2).setCell ⟨b,3,none⟩ x3):=by
 subst hb
 have h3:Touch (fun k=>w.heap.size≤k) w w4:=(h1.mono (fun k hk=>absurd hk (h0 k))).trans h2
 exact ((((h3.setCell _ _ (.inr (Nat.le_refl _))).setCell _ _ (.inr (Nat.le_refl _))).setCell _ _ (.inr (Nat.le_refl _))).setCell _ _ (.inr (Nat.le_refl _))).below (Nat.le_refl _) fun k h=>h
theorem far_drew {S:Nat→Prop} {w w3 w4:World} {b:Nat} (h1:Touch S w w3) (h2:Touch (fun k=>b≤k) w3 w4) (hb:b=w.heap.size) (h0:∀ k,¬S k) (x0 x1 x2 x3:Value) :
  Below b w ((((w4.setCell ⟨b,0,none⟩ x0).setCell ⟨b,1,none⟩ x1).setCell ⟨b,2,none⟩ x2).setCell ⟨b,3,none⟩ x3).drew:=
 below_drew (far_ok h1 h2 hb h0 x0 x1 x2 x3)
theorem far_own {w4:World} {b n:Nat} {ov:Value} {xs:List Value} (h:w4.ownsRow (b+1) 5 1 ov n xs) (x0 x1 x2 x3:Value) :
  ((((w4.setCell ⟨b,0,none⟩ x0).setCell ⟨b,1,none⟩ x1).setCell ⟨b,2,none⟩ x2).setCell ⟨b,3,none⟩ x3).drew.ownsRow b 5 1 ov n xs:=by
 have h0:Touch (fun k=>k=b) w4 w4:=Touch.refl _ _
 have h1:=h0.setCell ⟨b,0,none⟩ x0 (.inl rfl)
 have h2:=h1.setCell ⟨b,1,none⟩ x1 (.inl rfl)
 have h3:=h2.setCell ⟨b,2,none⟩ x2 (.inl rfl)
 have ht:=h3.setCell ⟨b,3,none⟩ x3 (.inl rfl)
 refine own_base (ownsRow_touch h ht.drew ?_) (Nat.le_succ _)
 intro i hi e
 have:=(h.lt i hi).1
 omega
theorem far_blk {w4:World} {b:Nat} {y0 y1 y2 y3:Value} (h:Blk w4 b 27 #[y0,y1,y2,y3]) (x0 x1 x2 x3:Value) :
  Blk ((((w4.setCell ⟨b,0,none⟩ x0).setCell ⟨b,1,none⟩ x1).setCell ⟨b,2,none⟩ x2).setCell ⟨b,3,none⟩ x3).drew b 27 #[x0,x1,x2,x3]:=
 ((((h.setCell 0 x0).setCell 1 x1).setCell 2 x2).setCell 3 x3).drewN 1
def InfTo (w:World) (r:Res Unit) (e:Ending) (w':World):Prop:=
 Below w.heap.size w w'∧match r with
 | .bad er=>e = .returned (.tuple #[.agg #[.slice none 0 0,.int .i64 0,.int .i64 0,.int .i64 0],.int .i64 (er:Nat)])
 | .ok _ s=>∃ ov,e = .returned (.tuple #[.agg #[ov,.int .i64 ((s.at_+7)/8:Nat),.int .i64 (s.steps:Nat),.int .i64 (s.blocks:Nat)],.int .i64 0])∧w'.ownsRow w.heap.size 5 1 ov s.out.length (u8s s.out)
set_option maxHeartbeats 3200000 in
theorem Inflate_any {w:World} {v:Value} {bs:List Nat} (h:BySl w v bs) (hb:Bs bs) (hl:bs.length≤100000) (limit:Int) (lim:Nat) (hlim:lim=limit.toNat) (hl2:lim≤2000000) (hT:Tab w) (hB:2<w.heap.size) :
  Calls Tryz.prog 12 #[v,.int .i64 limit] w (InfTo w (infl bs lim)):=by
 have hmx:max limit 0=(lim:Int):=by omega
 have HM:=Lib.hid hmx
 have HS:=Lib.hid h
 have HB:=Lib.hid hb
 have HT:=Lib.hid hT
 have HI:=Lib.hid (show infl bs lim=run (8*bs.length) (blk1 bs lim) () st0 from rfl)
 obtain ⟨R,hR⟩:∃ R,infl bs lim=R:=⟨_,rfl⟩
 rw [hR]
 have HR:=Lib.hid hR
 clear h hb hT hmx hlim hR
 go_enter Tryz.func12,Tryz.ntmps12
 go_wp2_with fail
 refine (newReader_any (HS.out.touch ((Touch.refl (fun _=>False) w).alloc _) (fun _ _ h=>h)) HB.out (by omega)).mono ?_
 rintro e w2 ⟨pb,g,rfl,ho,ht⟩
 have hw1:(w.alloc (.cells #[.slice none 0 0,.int .i64 0,.int .i64 0,.int .i64 0] 27)).heap.size=w.heap.size+1:=Array.size_push _
 rw [hw1] at ho
 have hq2:Blk w2 w.heap.size 27 #[.slice none 0 0,.int .i64 0,.int .i64 0,.int .i64 0]:=(Blk.made w 27 _).touch ht (fun h=>h)
 have ht2:Touch (fun _=>False) w w2:=((Touch.refl (fun _=>False) w).alloc _).trans ht
 have hsz:w.heap.size+1≤w2.heap.size:=by rw [←hw1];exact ht.size
 have hr3:RS (w.heap.size+1) 0 w2.heap.size pb g bs lim (w2.alloc (.cells (rc pb (.slice none 0 0) lim st0 (.pointer none)) 49)) (.slice none 0 0) st0:=
  ⟨⟨_,Blk.made _ _ _,.inl rfl⟩,ho.touch ((Touch.refl (fun _=>False) w2).alloc _) (fun _ _ h=>h),World.ownsRow_nil _ _ _ _,hsz,fun k hk=>absurd hk (by simp [Value.ownBlock]),hl,hl2,Nat.zero_le _,Nat.zero_le _,Nat.zero_le _,Nat.zero_le _,Bs.nil⟩
 have hq3:Blk (w2.alloc (.cells (rc pb (.slice none 0 0) lim st0 (.pointer none)) 49)) w.heap.size 27 #[.slice none 0 0,.int .i64 0,.int .i64 0,.int .i64 0]:=hq2.touch ((Touch.refl (fun _=>False) w2).alloc _) (fun h=>h)
 have ht3:Touch (fun _=>False) w (w2.alloc (.cells (rc pb (.slice none 0 0) lim st0 (.pointer none)) 49)):=ht2.alloc _
 have H3:=Lib.hid hr3
 have HQ3:=Lib.hid hq3
 have HT3:=Lib.hid ht3
 have HTab:=Lib.hid (HT.out.touch ht3 (fun h=>h))
 clear ho ht hw1 hq2 ht2 hr3 hq3 ht3
 go_wp2_with fail
 rw [HM.out]
 refine (readAll_any (Nat.zero_le _) (by omega) HTab.out HB.out H3.out).mono ?_
 rintro e w4 h4
 rw [←HI.out,HR.out] at h4
 cases R with
 | bad er=>
  obtain ⟨rfl,ht⟩:=h4
  have her:=infl_nz HB.out HR.out
  have HQ4:=Lib.hid (HQ3.out.safe ht H3.out.safe (by decide))
  have HT4:=Lib.hid ht
  have d1:((er:Int) != 0)=true:=by simp;omega
  have e0:=(HQ4.out.cell 0).trans (show _=some (.slice none 0 0) from rfl)
  have e1:=(HQ4.out.cell 1).trans (show _=some (.int .i64 0) from rfl)
  have e2:=(HQ4.out.cell 2).trans (show _=some (.int .i64 0) from rfl)
  have e3:=(HQ4.out.cell 3).trans (show _=some (.int .i64 0) from rfl)
  have f0:=HQ4.out.free 0
  have f1:=HQ4.out.free 1
  have f2:=HQ4.out.free 2
  have f3:=HQ4.out.free 3
  clear ht her
  go_wp2
  refine bodyPost_ret (res21 rfl rfl ((((HQ4.out.setCell 0 _).setCell 1 _).setCell 2 _).setCell 3 _)) rfl ⟨?_,rfl⟩
  exact far_ok HT3.out (HT4.out.mono fun k hk=>Nat.le_of_succ_le (H3.out.base k hk)) rfl (fun _ h=>h) _ _ _ _
 | ok u s=>
  obtain ⟨rfl,K',ov',hk,h4,m4⟩:=h4
  obtain ⟨ao,c,rfl⟩:=h4.slice
  have HQ4:=Lib.hid (HQ3.out.safe m4.touch H3.out.safe (by decide))
  have H4:=Lib.hid h4
  have M4:=Lib.hid m4
  have hat:=h4.in_
  have hln:=H4.out.len
  have e0:=(HQ4.out.cell 0).trans (show _=some (.slice none 0 0) from rfl)
  have e1:=(HQ4.out.cell 1).trans (show _=some (.int .i64 0) from rfl)
  have e2:=(HQ4.out.cell 2).trans (show _=some (.int .i64 0) from rfl)
  have e3:=(HQ4.out.cell 3).trans (show _=some (.int .i64 0) from rfl)
  have f0:=HQ4.out.free 0
  have f1:=HQ4.out.free 1
  have f2:=HQ4.out.free 2
  have f3:=HQ4.out.free 3
  obtain ⟨c0,c1,c2,c3,c4,_,_,_,_⟩:=h4.cells
  clear hk h4 m4
  have hAt:=Lib.hid (show Calls Tryz.prog 23 #[.pointer (some ⟨pb,0,none⟩)] w4.drew fun e w'=>e = .returned (.int .i64 (s.at_:Nat))∧w'=w4.drew from ((H4.out.ob.drewN 1).at).mono fun _ _ h=>⟨h.1,h.2.symm⟩)
  go_wp2_with fail
  go_still_tail 19,(by kernel_rfl)
  still_call hAt.out
  still_call ((inflBytesFor s.at_ w4.drew (by omega)).mono fun _ _ h=>⟨h.1,h.2.symm⟩)
  repeat still_step
  refine wpStill_nil ?_
  change wpList _ _ _ _ _ w4.drew
  go_wp2
  rw [show ((s.at_:Int)+7)/8=((s.at_+7)/8:Nat) by simp]
  exact bodyPost_ret (res21 rfl rfl (far_blk HQ4.out _ _ _ _)) rfl ⟨far_drew HT3.out (M4.out.touch.mono fun k hk=>Nat.le_of_succ_le (H3.out.base k hk)) rfl (fun _ h=>h) _ _ _ _,_,rfl,far_own H4.out.own _ _ _ _⟩
theorem alloc_size (w:World) (o:Obj):(w.alloc o).heap.size=w.heap.size+1:=Array.size_push _
theorem by_lit (w:World) (xs:List Nat) (cs:Array Value) (n q:Nat) (hq:q=w.heap.size) (hn:xs.length=n) (hc:cs=(u8s xs).toArray):BySl (w.alloc (.cells cs 5)) (.slice (some ⟨q,0,none⟩) n n) xs:=by
 subst hn hc hq
 refine .inr ⟨⟨w.heap.size,0,none⟩,xs.length,rfl,Nat.le_refl _,fun j u hu=>?_⟩
 have:=(Blk.made w 5 (u8s xs).toArray).cell j
 rw [show (⟨w.heap.size,0,none⟩:Addr).add j=⟨w.heap.size,j,none⟩ by simp [Addr.add];omega,this]
 simpa using hu
theorem by_text (w:World) (xs:List Nat) (cs:Array Value) (n q:Nat) (z:Nat × Nat) (hq:q=w.heap.size) (hn:xs.length=n) (hc:cs=(u8s xs).toArray):BySl (w.alloc (.cells cs 5 z)) (.slice (some ⟨q,0,none⟩) n n) xs:=by
 subst hn hc hq
 refine .inr ⟨⟨w.heap.size,0,none⟩,xs.length,rfl,Nat.le_refl _,fun j u hu=>?_⟩
 have:(w.alloc (.cells (u8s xs).toArray 5 z)).cell? ⟨w.heap.size,j,none⟩=(u8s xs).toArray[j]? := cell_of_row _ _ j _ 5 z (heap_alloc_new w _)
 rw [show (⟨w.heap.size,0,none⟩:Addr).add j=⟨w.heap.size,j,none⟩ by simp [Addr.add];omega,this]
 simpa using hu
structure Ans (W:World) (b base:Nat) (ov:Value) (out:List Nat) (u st bl:Nat):Prop where
 blk:Blk W b 27 #[ov,.int .i64 (u:Nat),.int .i64 (st:Nat),.int .i64 (bl:Nat)]
 own:W.ownsRow base 5 1 ov out.length (u8s out)
section
variable {W W':World} {b base:Nat} {ov:Value} {out:List Nat} {u st bl:Nat}
theorem Ans.below (h:Ans W b base ov out u st bl) (hb:Below W.heap.size W W'):Ans W' b base ov out u st bl:=
 ⟨h.blk.below hb,ownsRow_touch h.own (Touch.of_below hb:Touch (fun _=>False) W W') fun _ _ h=>h⟩
theorem Ans.by (h:Ans W b base ov out u st bl):BySl W ov out:=BySl.own h.own
theorem Ans.c (h:Ans W b base ov out u st bl) :
  W.cell? ⟨b,0,none⟩=some ov∧W.cell? ⟨b,1,none⟩=some (.int .i64 (u:Nat))∧W.cell? ⟨b,2,none⟩=some (.int .i64 (st:Nat))∧W.cell? ⟨b,3,none⟩=some (.int .i64 (bl:Nat)):=
 ⟨(h.blk.cell 0).trans rfl,(h.blk.cell 1).trans rfl,(h.blk.cell 2).trans rfl,(h.blk.cell 3).trans rfl⟩
end
abbrev box4 (w1:World) (ov:Value) (u st bl:Nat):World:=w1.alloc (.cells #[ov,.int .i64 (u:Nat),.int .i64 (st:Nat),.int .i64 (bl:Nat)] 27)
theorem Ans.made {w1:World} {base:Nat} {ov:Value} {out:List Nat} {u st bl:Nat} (h:w1.ownsRow base 5 1 ov out.length (u8s out)) :
  Ans (box4 w1 ov u st bl) w1.heap.size base ov out u st bl:=⟨Blk.made _ _ _,h.alloc _⟩
theorem _root_.Go.RowKit.Below.more {B:Nat} {w w1:World} (h:Below B w w1) (hB:B≤w.heap.size) (o:Obj):Below B w (w1.alloc o):=h.alloc (Nat.le_trans hB h.size) o
theorem _root_.Go.RowKit.Below.on {w w1 w2:World} (h:Below w.heap.size w w1) (k:Below w1.heap.size w1 w2):Below w.heap.size w w2:=h.trans (k.mono h.size)
end
section
open Go.ChangeShapes Go.WideShapes Go.ChangeAt Go.RowKit
theorem own:ownKnob Tryz.prog.godebug=none:=by kernel_rfl
theorem laidOut:laidOutB Tryz.prog=true:=by kernel_rfl
abbrev laidL:List (String × DataW Unit):=[("etui/match.efforts",Rows.laid_etui_match_efforts),("etui/inflate.ownOrder",Rows.laid_etui_inflate_ownOrder),("etui/deflate.ownOrder",Rows.laid_etui_deflate_ownOrder)]
theorem ord_z:∀ j,j<19→([16,17,18,0,8,7,9,6,10,5,11,4,12,3,13,2,14,1,15]:List Int).getD j 0=((ord.getD j 0:Nat):Int):=by decide
theorem tab_of {W:World} (h:laidMetH Tryz.prog laidL W):Tab W:=by
 rw [MakeChecks.laidMetH_plain _ _ _ (by kernel_rfl)] at h
 have ht:=Lib.tabIs_of_head (P:=Tryz.prog) (name := "etui/inflate.ownOrder") (k := .i64) (zs:=[16,17,18,0,8,7,9,6,10,5,11,4,12,3,13,2,14,1,15]) (rest:=[("etui/deflate.ownOrder",Rows.laid_etui_deflate_ownOrder)]) (g:=2) (t:=186) (e:=3) (n:=19) (by kernel_rfl) (by kernel_rfl) Tryz.underlying186 Tryz.underlying3 (by kernel_rfl) (by kernel_rfl) h.tail
 intro j hj
 have:=ht.cell (g:=2) (by kernel_rfl) j hj
 rw [ord_z j hj] at this
 exact this
def TabD (W:World):Prop:=∀ j,j<19→W.cell? ⟨1,j,none⟩=some (.int .i64 (ord.getD j 0:Nat))
theorem tabD_of {W:World} (h:laidMetH Tryz.prog laidL W):TabD W:=by
 rw [MakeChecks.laidMetH_plain _ _ _ (by kernel_rfl)] at h
 have ht:=Lib.tabIs_of_head (P:=Tryz.prog) (name := "etui/deflate.ownOrder") (k := .i64) (zs:=[16,17,18,0,8,7,9,6,10,5,11,4,12,3,13,2,14,1,15]) (rest:=[]) (g:=1) (t:=186) (e:=3) (n:=19) (by kernel_rfl) (by kernel_rfl) Tryz.underlying186 Tryz.underlying3 (by kernel_rfl) (by kernel_rfl) h.tail.tail
 intro j hj
 have:=ht.cell (g:=1) (by kernel_rfl) j hj
 rw [ord_z j hj] at this
 exact this
theorem by_open {H:Type} {enc:TypeId × Value→H} {w:World} {base:Nat} {spare:Nat→Bool} {held:Bool} {fuel:Nat} {a:Option Addr} {len cap:Nat} {y:DataW H × List MemPlace}
  (h:DataW.trod enc Tryz.prog w base spare held fuel 22 [.slice a len cap]=some y):∃ xs:List Nat,xs.length=len∧Bs xs∧BySl w (.slice a len cap) xs∧len≤cap∧cap≤maxLen:=by
 rcases open_ints Tryz.underlying22 Tryz.underlying5 (by kernel_rfl) h with ⟨hcs,_⟩ | ⟨ad,l,c,zs,hcs,_,hl,hm,hz,_,hcell,hwf⟩
 ·simp at hcs
  obtain ⟨rfl,rfl,rfl⟩:=hcs
  exact ⟨[],rfl,(fun x h=>by cases h),.inl ⟨rfl,rfl⟩,Nat.le_refl _,Nat.zero_le _⟩
 ·simp at hcs
  obtain ⟨rfl,rfl,rfl⟩:=hcs
  have hzl:len≤zs.length:=by rw [hz];split <;> omega
  have hbd:∀ n∈zs,0≤n∧n<256:=fun n hn=>by have:=bounds_u8 (hwf n hn);omega
  have hlen:((zs.take len).map Int.toNat).length=len:=by rw [List.length_map,List.length_take];omega
  refine ⟨(zs.take len).map Int.toNat,hlen,?_,.inr ⟨ad,cap,by rw [hlen],by omega,fun j u hu=>?_⟩,hl,hm⟩
  ·intro x hx
   obtain ⟨z,hz1,rfl⟩:=List.mem_map.1 hx
   have:=hbd z (List.mem_of_mem_take hz1)
   omega
  ·have hj:j<len:=by
    have:=(List.getElem?_eq_some_iff.1 hu).1
    simp only [u8s,List.length_map] at this
    rw [←hlen];simpa using this
   have hcj:=hcell j (by omega)
   rw [hcj]
   have hm':=hbd (zs[j]'(by omega)) (List.getElem_mem _)
   simp [u8s,hj,show j<zs.length by omega,Int.toNat_of_nonneg hm'.1] at hu ⊢
   exact hu
theorem BySl.grow {w w':World} {v:Value} {xs:List Nat} (h:BySl w v xs) (hb:Below w.heap.size w w'):BySl w' v xs:=
 h.touch (Touch.of_below hb:Touch (fun _=>False) w w') fun _ _ h=>h
theorem BySl.take {w:World} {ad:Addr} {n c:Nat} {xs:List Nat} (h:BySl w (.slice (some ad) n c) xs) (k:Nat) (hk:k≤xs.length):BySl w (.slice (some ad) k c) (xs.take k):=by
 rcases h with ⟨h,_⟩ | ⟨ad',c',he,hc,h⟩
 ·cases h
 ·simp only [Value.slice.injEq,Option.some.injEq] at he
  obtain ⟨rfl,rfl,rfl⟩:=he
  refine .inr ⟨ad,c,by rw [List.length_take,Nat.min_eq_left hk],by rw [List.length_take];omega,fun j u hu=>h j u ?_⟩
  simp only [u8s,List.map_take] at hu ⊢
  have hj:=(List.getElem?_eq_some_iff.1 hu).1
  rw [List.length_take] at hj
  rw [List.getElem?_take_of_lt (by omega)] at hu
  exact hu
end
section
open Go.RowKit
theorem Inflate_ok {w:World} {v:Value} {bs out:List Nat} {limit:Int} {at_ u n st bl:Nat} (h:BySl w v bs) (hb:Bs bs) (hl:bs.length≤100000) (hl2:limit≤2000000) (hT:Tab w) (hi:infl bs limit.toNat = .ok () ⟨at_,out,st,bl⟩) (hu:u=(at_+7)/8) (hn:n=out.length) :
  Calls Tryz.prog 12 #[v,.int .i64 limit] w fun e w'=>∃ ao c,e = .returned (.tuple #[.agg #[.slice ao n c,.int .i64 (u:Nat),.int .i64 (st:Nat),.int .i64 (bl:Nat)],.int .i64 0])∧Below w.heap.size w w'∧Ans (box4 w' (.slice ao n c) u st bl) w'.heap.size w.heap.size (.slice ao n c) out u st bl:=by
 subst hu hn
 refine (Inflate_any h hb hl limit limit.toNat rfl (by omega) hT hT.pos).mono ?_
 rintro e w' ⟨bel,h2⟩
 rw [hi] at h2
 obtain ⟨ov,rfl,own⟩:=h2
 obtain ⟨ao,c,rfl⟩:=own_shape own
 exact ⟨ao,c,rfl,bel,Ans.made own⟩
theorem own_lit0 (w:World):(w.alloc (.cells #[] 5)).ownsRow w.heap.size 5 1 (.slice (some ⟨w.heap.size,0,none⟩) 0 0) 0 (u8s []):=by
 refine ⟨by simp [u8s],.inr ⟨w.heap.size,0,#[],rfl,Nat.le_refl _,Blk.made w 5 #[],by simp,by simp [u8s]⟩⟩
def Kept (w:World) (xs:List Nat) (e:Ending) (w':World):Prop:=
 ∃ ao c,e = .returned (.slice ao xs.length c)∧w'.ownsRow w.heap.size 5 1 (.slice ao xs.length c) xs.length (u8s xs)∧Below w.heap.size w w'
theorem BySl.drop {w:World} {b off n c:Nat} {xs:List Nat} (h:BySl w (.slice (some ⟨b,off,none⟩) n c) xs) (k:Nat) (hk:k<xs.length):BySl w (.slice (some ⟨b,off+k,none⟩) (xs.length-k) (c-k)) (xs.drop k):=by
 rcases h with ⟨h,_⟩ | ⟨ad',c',he,hc,h⟩
 ·cases h
 ·simp only [Value.slice.injEq,Option.some.injEq] at he
  obtain ⟨rfl,rfl,rfl⟩:=he
  refine .inr ⟨⟨b,off+k,none⟩,c-k,by rw [List.length_drop],by rw [List.length_drop];omega,fun j u hu=>?_⟩
  simp only [u8s,List.map_drop,List.getElem?_drop] at hu
  have:=h (k+j) u hu
  rw [Addr.add_lit] at this ⊢
  rw [←this]
  congr 2
  omega
theorem Apd.kept {w w1 w':World} {v v':Value} {xs ys:List Nat} (hown:w1.ownsRow w.heap.size 5 1 v xs.length (u8s xs)) (hb:Below w.heap.size w w1) (h:Apd w1 w.heap.size v ys v' w'):Below w.heap.size w w':=
 hb.trans (h.touch.below hb.size fun k hk=>(hown.lt k hk).1)
def lv (z:Int):Nat:=(min (max z 0) 9).toNat
def bnd (n:Nat):Nat:=n+5*max ((n+65534)/65535) 1
def frp (L:Nat) (zs:List Int):Nat→Nat
 | 0=>0
 | i+1=>frp L zs i+if 0<zs.getD i 0∧zs.getD i 0<(L:Int)∧zs.getD i 0∉zs.take i then 1 else 0
def fr (L:Nat) (zs:List Int):Nat:=frp L zs zs.length
theorem frp_le (L:Nat) (zs:List Int):∀ i,frp L zs i≤i:=by
 intro i
 induction i with
 | zero=>exact Nat.le_refl _
 | succ i ih=>rw [frp];split <;> omega
def Packs (bs out:List Nat) (k:Nat):Prop:=Bs out∧out.length≤2*bs.length+1000∧∃ at_ st bl,infl out bs.length = .ok () ⟨at_,bs,st,bl⟩∧(at_+7)/8=out.length∧k≤bl
structure Prg8 (Tb:World→Prop) (D:List Nat→Nat→List Nat) (S:List Nat→List Nat):Prop where
 keep:∀ {W W':World},Tb W→Below W.heap.size W W'→Tb W'
 tab:∀ {W:World},Tb W→Tab W
 defl:∀ {w:World} {v:Value} {bs:List Nat} (level:Int),Tb w→BySl w v bs→Bs bs→bs.length≤5000→Calls Tryz.prog 11 #[v,.int .i64 level] w (Kept w (D bs (lv level)))
 blks:∀ {w:World} {v:Value} {bs:List Nat} (level:Int) {ao:Option Addr} {c:Nat} {zs:List Int},Tb w→BySl w v bs→Bs bs→bs.length≤5000→IS w ao zs→zs.length≤100→
  Calls Tryz.prog 19 #[v,.int .i64 level,.slice ao zs.length c] w fun e w'=>∃ out,Kept w out e w'∧Packs bs out (fr bs.length zs+1)
 sto:∀ {w:World} {v:Value} {bs:List Nat},Tb w→BySl w v bs→Bs bs→bs.length≤300000→Calls Tryz.prog 17 #[v] w (Kept w (S bs))
 bound:∀ (w:World) (n:Nat),n≤1099511627776→Calls Tryz.prog 14 #[.int .i64 (n:Nat)] w fun e w'=>e = .returned (.int .i64 (bnd n:Nat))∧Below w.heap.size w w'
 none:∀ (w:World) (n:Int),n<0∨1099511627776<n→Calls Tryz.prog 14 #[.int .i64 n] w fun e w'=>e = .returned (.int .i64 0)∧Below w.heap.size w w'
 back:∀ {bs:List Nat} {k:Nat},Bs bs→bs.length≤5000→k≤9→Packs bs (D bs k) 1∧(D bs k).length≤bnd bs.length
 zero:∀ {bs:List Nat},Bs bs→bs.length≤5000→D bs 0=S bs
 few:∀ {c n k:Nat},c<256→1000≤n→n≤5000→1≤k→k≤9→(D (List.replicate n c) k).length≤n/10
theorem lv_le (z:Int):lv z≤9:=by unfold lv;omega
theorem lv_lv (z:Int):lv (min (max z 0) 9)=lv z:=by unfold lv;omega
theorem lv_pos {z:Int} (h:1≤z):1≤lv z:=by unfold lv;omega
theorem lv_zero {z:Int} (h:z≤0):lv z=0:=by unfold lv;omega
theorem Kept.by {w w':World} {xs:List Nat} {e:Ending} (h:Kept w xs e w'):∃ ao c,e = .returned (.slice ao xs.length c)∧BySl w' (.slice ao xs.length c) xs∧Below w.heap.size w w':=by
 obtain ⟨ao,c,h1,h2,h3⟩:=h
 exact ⟨ao,c,h1,BySl.own h2,h3⟩
end
end Go.Proofs.YtacpfpghokcdlaaGreatDoor
