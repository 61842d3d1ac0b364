/- Part 15. -/
import Derived.Test.YtbogfailbgbdoaaGreatDoorXA14
set_option linter.unusedVariables false
set_option linter.unusedSimpArgs false
namespace Go.Proofs.YtbogfailbgbdoaaGreatDoor.K
set_option maxRecDepth 100000
section
open Go.RowKit Go.Proofs.YtbogfailbgbdoaaGreatDoor U
theorem ix_short {s L:List Nat} (h:L.length<s.length):ix s L=none:=by
 rcases hi:ix s L with _ | i
 ·rfl
 ·have:=ix_le hi;omega
theorem ix_at {s L:List Nat} {i:Nat} (hi:i<L.length):ix s (L.drop i)=if s <+: L.drop i then some 0 else (ix s (L.drop (i+1))).map (· + 1):=by
 rw [drop_cons hi]
 rfl
def RuTo (p:Nat) (xs:List Nat) (k fr er pl:Nat) (s:List Nat) (r:Option Nat) (w:World) (e:Ending) (w':World):Prop:=
 Touch (fun i=>i=p) w w'∧match r with
  | some i=>e = .returned (.string (txt ((xs.drop k).take i)))∧Rp w' p xs (k+i+s.length) fr er pl
  | none=>e = .returned (.string (txt []))∧Rp w' p xs k fr (if er=0 then 22 else er) (if er=0 then fr else pl)
section
variable (w:World) (p:Nat) (xs:List Nat) (k fr pl:Nat)
set_option maxHeartbeats 3200000 in
theorem runtil_any (s:List Nat) (T:ByteArray) (hT:T=txt s) (hs:Bs s) (hl:s.length≤1000) (hs0:0<s.length) (h:Rp w p xs k fr 0 pl) :
  Calls Tryz.prog 51 #[.pointer (some ⟨p,0,none⟩),.string T] w (RuTo p xs k fr 0 pl s (ix s (xs.drop k)) w):=by
 have H:=Lib.hid h
 have hlen:=h.len
 have hkl:=h.le
 have hbs:=Lib.hid h.bs
 have c0:=h.c0
 have c1:=h.c1
 have c3:=h.c3
 have f1:=h.blk.free 1
 obtain ⟨n,hn⟩:∃ n,n=s.length:=⟨_,rfl⟩
 have hTn:(T.size:Int)=n:=by rw [hT,txt_size,hn]
 have hTN:T.size=n:=by rw [hT,txt_size,hn]
 have hSz:(txt xs).size=xs.length:=txt_size xs
 have HN:=Lib.hid hn
 obtain ⟨RES,hRES⟩:∃ RES,RES=ix s (xs.drop k):=⟨_,rfl⟩
 rw [←hRES]
 have HR0:=Lib.hid hRES
 have KF:=Lib.hid fun (W:World) (h:Rp W p xs k fr 0 pl)=>rfail_any W p xs k fr 0 pl 22 h
 have HT:=Lib.hid hT
 have HSS:=Lib.hid hs
 have hEX:=Lib.hid fun i j=>txt_extract xs i j
 obtain ⟨S,hS⟩:∃ S,S=txt xs:=⟨_,rfl⟩
 rw [←hS] at hSz c0 hEX
 have hSn:(S.size:Int)=xs.length:=by rw [hSz]
 clear h hRES hT hs hS
 rw [←hn] at hl hs0
 clear hn
 go_enter Tryz.func51,Tryz.ntmps51
 go_wp2
 go_loopg [5] (xs.length-k) (fun gh s5 wr=>wr=w∧∃ j:Nat,s5 = .int .i64 ((k+j:Nat):Int)∧Hid (RES=(ix s (xs.drop (k+j))).map (· + j))∧xs.length-(k+j)≤gh∧k+j≤xs.length)
 case atStart=>exact ⟨rfl,0,rfl,Lib.hid (by rw [HR0.out,Nat.add_zero];simp),by omega,by omega⟩
 case round=>
  obtain ⟨rfl,j,rfl,hst,hgh,hkj⟩:=hrel
  obtain ⟨kk,hkk⟩:∃ kk,kk=k+j:=⟨_,rfl⟩
  have HKK:=Lib.hid hkk
  rw [←hkk] at hst hgh hkj ⊢
  by_cases hfit:kk+n≤xs.length
  ·have hfI:(kk:Int)+n≤xs.length:=by omega
   obtain ⟨t,ht⟩:∃ t,t=kk+n:=⟨_,rfl⟩
   have hsum:(kk:Int)+n=t:=by omega
   have htl:t≤xs.length:=by omega
   have htk:kk≤t:=by omega
   have hkkk:k≤kk:=by omega
   have hsl:∀ W,(Instr.slice 9 (.string S) (some (.int .i64 (kk:Nat))) (some (.int .i64 (t:Nat))) none).run Tryz.prog W = .ok (.string (S.extract kk t)) W:=fun W=>by
    have h1:(0:Int)≤kk∧(kk:Int)≤t:=by omega
    have h2:(t:Int)≤S.size:=by rw [hSz];omega
    simp [go_sem,h1,h2]
   have hsl2:∀ W,(Instr.slice 9 (.string S) (some (.int .i64 (k:Nat))) (some (.int .i64 (kk:Nat))) none).run Tryz.prog W = .ok (.string (S.extract k kk)) W:=fun W=>by
    have h1:(0:Int)≤k∧(k:Int)≤kk:=by omega
    have h2:(kk:Int)≤S.size:=by rw [hSz];omega
    simp [go_sem,h1,h2]
   have hpre:(s <+: xs.drop kk)↔(xs.drop kk).take n=s:=by rw [HN.out];exact List.prefix_iff_eq_take.trans eq_comm
   have hcut:S.extract kk t=txt ((xs.drop kk).take n):=by rw [hEX.out,show t-kk=n by omega]
   rw [hcut] at hsl
   have hst2:=hst.out
   rw [ix_at (by omega)] at hst2
   by_cases hp:s <+: xs.drop kk
   ·rw [hpre.1 hp,←HT.out] at hsl
    rw [if_pos hp] at hst2
    have HRR:Hid (RES=some j):=Lib.hid (by rw [hst2];simp)
    obtain ⟨PC,hPC⟩:∃ PC,PC=S.extract k kk:=⟨_,rfl⟩
    rw [←hPC] at hsl2
    have HPC:Hid (PC=txt ((xs.drop k).take j)):=Lib.hid (by rw [hPC,hEX.out,show kk-k=j by omega])
    have HTT:=Lib.hid ht
    clear hst2 hpre hp hcut hPC hkk ht
    go_upto_region 5 with fail
    go_quiet (fail)
    go_wp2
    go_ret
    rw [HRR.out]
    have hset:=(H.out.drew nq).set1 t htl
    refine ⟨((Touch.refl _ wr).drewN nq).trans (touch_set p 1 _ _),?_,?_⟩
    ·rw [←HPC.out];rfl
    ·rw [←HN.out,show k+j+n=t by have:=HKK.out;have:=HTT.out;omega];exact hset
   ·rw [if_neg hp] at hst2
    have hnt:¬(xs.drop kk).take n=s:=fun h=>hp (hpre.2 h)
    have hl1:(txt ((xs.drop kk).take n)).toList≠T.toList:=by
     rw [HT.out,txt_toList,txt_toList]
     exact fun e=>hnt (u8L_inj ((hbs.out.drop kk).take _) HSS.out e)
    have hl2:((txt ((xs.drop kk).take n)).toList == T.toList)=false:=beq_eq_false_iff_ne.2 hl1
    generalize txt ((xs.drop kk).take n)=PC at hsl hl1 hl2
    have HST2:Hid (RES=(ix s (xs.drop (k+(j+1)))).map (· + (j+1))):=Lib.hid (by
     rw [hst2,show k+(j+1)=kk+1 by omega]
     cases ix s (xs.drop (kk+1)) <;> simp;omega)
    clear hst2 hpre hp hcut hkk ht hnt hsl2
    go_wp2
    have hkk:=HKK.out
    go_roundg (xs.length-(kk+1))
    case measure=>omega
    case rel=>exact ⟨rfl,j+1,by rw [show k+(j+1)=kk+1 by omega];rfl,HST2,by omega,by omega⟩
  ·have hfI:¬(kk:Int)+n≤xs.length:=by omega
   have HRR:Hid (RES=none):=Lib.hid (by rw [hst.out,ix_short (by rw [List.length_drop,←HN.out];omega)];rfl)
   clear hkk
   go_wp2_with (go_at_call 49;refine (KF.out _ H.out).mono ?_;rintro e w2 ⟨rfl,ht2,hs2⟩;have HT2:=Lib.hid ht2;have HS2:=Lib.hid hs2;clear ht2 hs2)
   go_ret
   rw [HRR.out]
   exact ⟨HT2.out,rfl,HS2.out⟩
end
theorem num_mem:∀ (b:Nat) (ds:List Nat) (v u:Nat),num b ds v=some u→∀ x∈ds,digit x<b
 | _,[],_,_,_,x,hx=>by cases hx
 | b,c::t,v,u,h,x,hx=>by
  unfold num at h
  split at h
  ·cases h
  ·rename_i hd
   rcases List.mem_cons.1 hx with rfl | hx
   ·omega
   ·exact num_mem b t _ u h x hx
def refc (x:Nat):Bool:=x != 9 && x != 10 && x != 32 && x != 60
theorem refc_ne {x:Nat} (h:refc x=true):x≠9∧x≠10∧x≠32∧x≠60:=by
 unfold refc at h
 simp at h
 omega
theorem digit_refc {x b:Nat} (hb:b≤16) (h:digit x<b):refc x=true:=by
 cases e:refc x with
 | true=>rfl
 | false=>
  exfalso
  have h4:x=9∨x=10∨x=32∨x=60:=by
   unfold refc at e;simp at e;omega
  have h9:digit x=99:=by rcases h4 with rfl | rfl | rfl | rfl <;> rfl
  omega
theorem tw_mem {p:Nat→Bool}:∀ {l:List Nat} {x:Nat},x∈l.takeWhile p→p x=true
 | [],_,h=>by cases h
 | c::t,x,h=>by
  rw [List.takeWhile_cons] at h
  split at h
  ·rename_i hc
   rcases List.mem_cons.1 h with rfl | h
   ·exact hc
   ·exact tw_mem h
  ·cases h
theorem numbered_refc {ds:List Nat} {b v:Nat} (hb:b≤16) (h:numbered ds b=some v):∀ x∈ds,refc x=true:=by
 unfold numbered at h
 split at h
 ·cases h
 ·unfold chr at h
  split at h
  ·cases h
  ·rename_i u hu
   have hm:=num_mem b _ 0 _ hu
   intro x hx
   rw [←List.takeWhile_append_dropWhile (p:=(· == 48)) (l:=ds)] at hx
   rcases List.mem_append.1 hx with hx | hx
   ·have:x=48:=by simpa using tw_mem hx
    subst this;rfl
   ·exact digit_refc hb (hm x hx)
theorem signOf_refc {r:List Nat} {v:Nat} (h:signOf r=some v):∀ x∈r,refc x=true:=by
 have hl:∀ (l:List Nat),l.all refc=true→r=l→∀ x∈r,refc x=true:=fun l hl e x hx=>by
  subst e;exact List.all_eq_true.1 hl x hx
 unfold signOf at h
 split at h
 ·exact hl _ rfl (by assumption)
 split at h
 ·exact hl _ rfl (by assumption)
 split at h
 ·exact hl _ rfl (by assumption)
 split at h
 ·exact hl _ rfl (by assumption)
 split at h
 ·exact hl _ rfl (by assumption)
 split at h
 ·rename_i hp
  obtain ⟨t,rfl⟩:=hp
  intro x hx
  have:=numbered_refc (by decide) h
  simp only [List.cons_append,List.nil_append,List.mem_cons] at hx
  rcases hx with rfl | rfl | hx
  ·rfl
  ·rfl
  ·exact this x (by simpa using hx)
 split at h
 ·rename_i hp
  obtain ⟨t,rfl⟩:=hp
  intro x hx
  have:=numbered_refc (by decide) h
  simp only [List.cons_append,List.nil_append,List.mem_cons] at hx
  rcases hx with rfl | hx
  ·rfl
  ·exact this x (by simpa using hx)
 ·cases h
def fl1 (b:Bool) (c:Nat):Nat:=if b=true∧(c=9∨c=10) then 32 else c
def fl (b:Bool) (L:List Nat):List Nat:=L.map (fl1 b)
theorem fl_true (L:List Nat):fl true L=flat L:=by
 unfold fl flat fl1;simp
theorem fl_false (L:List Nat):fl false L=L:=by
 unfold fl fl1;simp
theorem fl1_ne {b:Bool} {c x:Nat} (hx:x≠9∧x≠10∧x≠32):fl1 b c=x↔c=x:=by
 unfold fl1
 split
 ·omega
 ·exact Iff.rfl
theorem ix_fl {b:Bool} {x:Nat} (hx:x≠9∧x≠10∧x≠32):∀ L:List Nat,ix [x] (fl b L)=ix [x] L
 | []=>rfl
 | c::t=>by
  show ix [x] (fl1 b c::fl b t)=_
  rw [ix1_cons,ix1_cons,ix_fl hx t]
  by_cases h:x=c
  ·rw [if_pos h,if_pos ((fl1_ne hx).2 h.symm).symm]
  ·rw [if_neg h,if_neg (fun e=>h ((fl1_ne hx).1 e.symm).symm)]
theorem signOf_fl (b:Bool) (r:List Nat):signOf (fl b r)=signOf r:=by
 by_cases h:∀ x∈r,refc x=true
 ·have:fl b r=r:=by
   unfold fl
   conv=>rhs;rw [←List.map_id r]
   refine List.map_congr_left fun x hx=>?_
   have:=refc_ne (h x hx)
   unfold fl1
   rw [if_neg (by omega)];rfl
  rw [this]
 ·have h1:signOf r=none:=by
   cases e:signOf r with
   | none=>rfl
   | some v=>exact absurd (signOf_refc e) h
  rw [h1]
  cases e:signOf (fl b r) with
  | none=>rfl
  | some v=>
   exfalso
   refine h fun x hx=>?_
   have hm:fl1 b x∈fl b r:=List.mem_map_of_mem hx
   have h2:=signOf_refc e _ hm
   unfold fl1 at h2
   split at h2
   ·cases h2
   ·exact h2
def trF (b:Bool):Nat→List Nat→Option (List Nat)
 | 0,_=>some []
 | _+1,[]=>some []
 | f+1,c::t=>if c=60 then none else if c=38 then (match ix [59] t with
   | none=>none
   | some j=>match signOf (t.take j) with
    | none=>none
    | some v=>(trF b f (t.drop (j+1))).map (enc v ++ ·)) else (trF b f t).map (fl1 b c :: ·)
def tr (b:Bool) (L:List Nat):Option (List Nat):=trF b L.length L
theorem trF_is (b:Bool):∀ (f:Nat) (L:List Nat),L.length≤f→trF b f L=if 60∈L then none else toldF f (fl b L)
 | 0,L,h=>by
  have:L=[]:=List.eq_nil_of_length_eq_zero (by omega)
  subst this;rfl
 | f+1,[],_=>rfl
 | f+1,c::t,h=>by
  have hf:t.length≤f:=by simpa using h
  unfold trF
  by_cases h60:c=60
  ·rw [if_pos h60,if_pos (by simp [h60])]
  rw [if_neg h60]
  show _=if 60∈c::t then none else toldF (f+1) (fl1 b c::fl b t)
  unfold toldF
  by_cases h38:c=38
  ·subst h38
   rw [if_pos rfl,if_pos (show fl1 b 38=38 from (fl1_ne (by decide)).2 rfl),ix_fl (by decide)]
   rcases hi:ix [59] t with _ | j
   ·simp
   ·simp only
    rw [show (fl b t).take j=fl b (t.take j) by unfold fl;rw [List.map_take],signOf_fl]
    rcases hs:signOf (t.take j) with _ | v
    ·simp
    ·simp only
     rw [show (fl b t).drop (j+1)=fl b (t.drop (j+1)) by unfold fl;rw [List.map_drop],trF_is b f _ (by rw [List.length_drop];omega)]
     have hm:60∈38::t↔60∈t.drop (j+1):=by
      obtain ⟨j1,j2,j3⟩:=ix1_some hi
      have e:t=t.take j++59::t.drop (j+1):=by
       have e0:t.getD j 0=t[j]:=by simp [List.getD,j1]
       rw [←j3,e0,←List.drop_eq_getElem_cons j1,List.take_append_drop]
      constructor
      ·intro hx
       rcases List.mem_cons.1 hx with e1 | e1
       ·cases e1
       ·rw [e] at e1
        rcases List.mem_append.1 e1 with e1 | e1
        ·exact absurd rfl (refc_ne (signOf_refc hs 60 e1)).2.2.2
        ·rcases List.mem_cons.1 e1 with e2 | e2
         ·cases e2
         ·exact e2
      ·intro hx;exact List.mem_cons_of_mem _ (List.mem_of_mem_drop hx)
     by_cases h6:60∈t.drop (j+1)
     ·rw [if_pos h6,if_pos (hm.2 h6)];rfl
     ·rw [if_neg h6,if_neg (fun e=>h6 (hm.1 e))]
  ·rw [if_neg h38,if_neg (fun e=>h38 ((fl1_ne (by decide)).1 e)),trF_is b f t hf]
   have hm:60∈c::t↔60∈t:=by simp [Ne.symm h60]
   by_cases h6:60∈t
   ·rw [if_pos h6,if_pos (hm.2 h6)];rfl
   ·rw [if_neg h6,if_neg (fun e=>h6 (hm.1 e))]
theorem tr_is (b:Bool) (L:List Nat):tr b L=if 60∈L then none else told (fl b L):=by
 unfold tr told
 rw [trF_is b L.length L (Nat.le_refl _)]
 unfold fl
 rw [List.length_map]
theorem tr_cons (b:Bool) (c:Nat) (t:List Nat):tr b (c::t)=if c=60 then none else if c=38 then (match ix [59] t with
   | none=>none
   | some j=>match signOf (t.take j) with
    | none=>none
    | some v=>(tr b (t.drop (j+1))).map (enc v ++ ·)) else (tr b t).map (fl1 b c :: ·):=by
 have key:∀ f (L:List Nat),L.length≤f→trF b f L=tr b L:=fun f L h=>by
  unfold tr
  rw [trF_is b f L h,trF_is b L.length L (Nat.le_refl _)]
  split
  ·rfl
  ·exact toldF_fuel _ _ _ (by unfold fl;rw [List.length_map];exact h) (by unfold fl;rw [List.length_map];exact Nat.le_refl _)
 show trF b (t.length+1) (c::t)=_
 unfold trF
 rw [key _ t (Nat.le_refl _)]
 rcases hi:ix [59] t with _ | j
 ·rfl
 ·simp only
  rw [key _ (t.drop (j+1)) (by rw [List.length_drop];omega)]
theorem tr_plP (T:List Nat):tr true T=match plP T with
  | .error _=>none
  | .ok v=>some v:=by
 rw [tr_is,fl_true]
 unfold plP
 by_cases h:60∈T
 ·rw [if_pos h,if_pos h]
 ·rw [if_neg h,if_neg h]
  cases told (flat T) <;> rfl
theorem plP_err {T:List Nat} {e:Nat} (h:plP T = .error e):e=22:=by
 unfold plP at h
 split at h
 ·injection h with h;exact h.symm
 ·split at h
  ·injection h with h;exact h.symm
  ·cases h
def stopA (L:List Nat):Prop:=sk blaP L=0∨L.drop (sk blaP L)=[]∨[62] <+: L.drop (sk blaP L)∨[47] <+: L.drop (sk blaP L)∨[63] <+: L.drop (sk blaP L)
instance (L:List Nat):Decidable (stopA L):=by unfold stopA;infer_instance
def raF:Nat→List At→List Nat→Except Nat (List At × Nat)
 | 0,acc,_ => .ok (acc,0)
 | f+1,acc,L=>
  if stopA L then .ok (acc,0) else (match onP (L.drop (sk blaP L)) with
   | .error e => .error e
   | .ok (a,n)=>if a.1∈acc.map Prod.fst then .error 22 else if 256<acc.length+1 then .error 14 else (match raF f (acc++[a]) (L.drop (sk blaP L+n)) with
    | .error e => .error e
    | .ok (l,m) => .ok (l,sk blaP L+n+m)))
def raA (acc:List At) (L:List Nat):Except Nat (List At × Nat):=raF L.length acc L
theorem stopA_nil:stopA []:=Or.inl rfl
theorem raF_fuel:∀ (f g:Nat) (acc:List At) (L:List Nat),Bs L→L.length≤f→L.length≤g→raF f acc L=raF g acc L
 | 0,0,_,_,_,_,_=>rfl
 | 0,g+1,acc,L,_,h,_=>by
  have:L=[]:=List.eq_nil_of_length_eq_zero (by omega)
  subst this
  rw [raF,raF,if_pos stopA_nil]
 | f+1,0,acc,L,_,_,h=>by
  have:L=[]:=List.eq_nil_of_length_eq_zero (by omega)
  subst this
  rw [raF,raF,if_pos stopA_nil]
 | f+1,g+1,acc,L,hb,h,h'=>by
  unfold raF
  by_cases h0:stopA L
  ·rw [if_pos h0,if_pos h0]
  rw [if_neg h0,if_neg h0]
  rcases h1:onP (L.drop (sk blaP L)) with e | ⟨a,n⟩
  ·rfl
  ·simp only
   have h2:=onP_ok (hb.drop _) h1
   rw [List.length_drop] at h2
   rw [raF_fuel f g (acc++[a]) (L.drop (sk blaP L+n)) (hb.drop _) (by rw [List.length_drop];omega) (by rw [List.length_drop];omega)]
theorem raA_step (acc:List At) {L:List Nat} (hb:Bs L):raA acc L =
  if stopA L then .ok (acc,0) else (match onP (L.drop (sk blaP L)) with
   | .error e => .error e
   | .ok (a,n)=>if a.1∈acc.map Prod.fst then .error 22 else if 256<acc.length+1 then .error 14 else (match raA (acc++[a]) (L.drop (sk blaP L+n)) with
    | .error e => .error e
    | .ok (l,m) => .ok (l,sk blaP L+n+m))):=by
 unfold raA
 cases hl:L.length with
 | zero=>
  have:L=[]:=List.eq_nil_of_length_eq_zero hl
  subst this
  rw [raF,if_pos stopA_nil]
 | succ k=>
  rw [raF]
  by_cases h0:stopA L
  ·rw [if_pos h0,if_pos h0]
  rw [if_neg h0,if_neg h0]
  rcases h1:onP (L.drop (sk blaP L)) with e | ⟨a,n⟩
  ·rfl
  ·simp only
   have h2:=onP_ok (hb.drop _) h1
   rw [List.length_drop] at h2
   rw [raF_fuel k _ (acc++[a]) (L.drop (sk blaP L+n)) (hb.drop _) (by rw [List.length_drop];omega) (Nat.le_refl _)]
theorem onP_no {L:List Nat} (h:begP (nx L).1=false):onP L = .error 22:=by
 unfold onP qnP nmP
 rw [if_neg (by rw [h];decide)]
def noEnd (L:List Nat):Prop:=¬[62] <+: L∧¬[47] <+: L∧¬[63] <+: L
def RaOf (L:List Nat) (r:Except Nat (List At × Nat)):Except Nat (List At × Nat)→Prop
 | .error e=>r = .error e
 | .ok (l,m)=>(∃ m',r = .ok (l,m')∧m'+sk blaP (L.drop m')=m)∨(r = .error 22∧noEnd (L.drop m))
theorem pre_beg {c:Nat} {L:List Nat} (h8:c<128) (h:[c] <+: L):(nx L).1=c:=by
 obtain ⟨t,rfl⟩:=pre1.1 h
 rw [nx_asc h8]
theorem ra_of:∀ (n:Nat) (acc:List At) (L:List Nat),L.length≤n→Bs L→RaOf L (raA acc L) (atA acc L)
 | n,acc,L,hn,hb=>by
  rw [atA_step acc hb,raA_step acc hb]
  have hsk:=sk_len blaP_zero hb
  by_cases h0:sk blaP L=0
  ·rw [if_pos h0,if_pos (show stopA L from Or.inl h0)]
   exact Or.inl ⟨0,rfl,by rw [List.drop_zero,h0]⟩
  rw [if_neg h0]
  by_cases hp:begP (nx (L.drop (sk blaP L))).1=true
  ·have hs:¬stopA L:=by
    rintro (e | e | e | e | e)
    ·exact h0 e
    ·rw [e] at hp;revert hp;decide +kernel
    ·rw [pre_beg (by decide) e] at hp;revert hp;decide +kernel
    ·rw [pre_beg (by decide) e] at hp;revert hp;decide +kernel
    ·rw [pre_beg (by decide) e] at hp;revert hp;decide +kernel
   rw [if_pos hp,if_neg hs]
   rcases ho:onP (L.drop (sk blaP L)) with e | ⟨a,j⟩
   ·exact rfl
   ·simp only
    have hj:=onP_ok (hb.drop _) ho
    rw [List.length_drop] at hj
    split
    ·exact rfl
    split
    ·exact rfl
    cases n with
    | zero=>omega
    | succ n=>
     have ih:=ra_of n (acc++[a]) (L.drop (sk blaP L+j)) (by rw [List.length_drop];omega) (hb.drop _)
     rcases hr:atA (acc++[a]) (L.drop (sk blaP L+j)) with e | ⟨l,m⟩
     ·rw [hr] at ih
      rw [show raA (acc++[a]) (L.drop (sk blaP L+j)) = .error e from ih]
      exact rfl
     ·rw [hr] at ih
      rcases ih with ⟨m',h1,h2⟩ | ⟨h1,h2⟩
      ·rw [h1]
       refine Or.inl ⟨_,rfl,?_⟩
       rw [List.drop_drop] at h2
       omega
      ·rw [h1]
       refine Or.inr ⟨rfl,?_⟩
       rw [List.drop_drop] at h2
       exact h2
  ·have hp':begP (nx (L.drop (sk blaP L))).1=false:=by simpa using hp
   rw [if_neg hp]
   by_cases hs:stopA L
   ·rw [if_pos hs]
    exact Or.inl ⟨0,rfl,by rw [List.drop_zero,Nat.zero_add]⟩
   ·rw [if_neg hs,onP_no hp']
    exact Or.inr ⟨rfl,fun e=>hs (Or.inr (Or.inr (Or.inl e))),fun e=>hs (Or.inr (Or.inr (Or.inr (Or.inl e)))),fun e=>hs (Or.inr (Or.inr (Or.inr (Or.inr e))))⟩
def bgR (L:List Nat):Except Nat (Tk × Nat):=
 match qnP L with
 | .error e => .error e
 | .ok n=>match raA [] (L.drop n) with
  | .error e => .error e
  | .ok (l,m)=>if [47,62] <+: L.drop (n+m+sk blaP (L.drop (n+m))) then .ok (⟨5,L.take n,[],l,true⟩,n+m+sk blaP (L.drop (n+m))+2)
   else if [62] <+: L.drop (n+m+sk blaP (L.drop (n+m))) then .ok (⟨5,L.take n,[],l,false⟩,n+m+sk blaP (L.drop (n+m))+1) else .error 22
theorem pre_two {x y:Nat} {L:List Nat} {k:Nat}:[x,y] <+: L.drop k↔[x] <+: L.drop k∧[y] <+: L.drop (k+1):=by
 rw [←List.drop_drop]
 generalize L.drop k=M
 constructor
 ·rintro ⟨t,rfl⟩
  exact ⟨⟨y::t,rfl⟩,⟨t,rfl⟩⟩
 ·rintro ⟨⟨t,rfl⟩,⟨u,hu⟩⟩
  refine ⟨u,?_⟩
  simp at hu ⊢
  exact hu
theorem bgR_is {L:List Nat} (hb:Bs L):bgR L=bgP L:=by
 unfold bgR bgP
 rcases hq:qnP L with e | n
 ·rfl
 ·simp only
  have h:=ra_of (L.drop n).length [] (L.drop n) (Nat.le_refl _) (hb.drop _)
  rw [show atP (L.drop n)=atA [] (L.drop n) from rfl]
  rcases ha:atA [] (L.drop n) with e | ⟨l,m⟩
  ·rw [ha] at h
   rw [show raA [] (L.drop n) = .error e from h]
  ·rw [ha] at h
   simp only
   rcases h with ⟨m',h1,h2⟩ | ⟨h1,h2⟩
   ·rw [h1]
    simp only
    rw [List.drop_drop] at h2
    have e:n+m'+sk blaP (L.drop (n+m'))=n+m:=by omega
    rw [e]
    by_cases h47:[47] <+: L.drop (n+m)
    ·rw [if_pos h47]
     by_cases h62:[62] <+: L.drop (n+m+1)
     ·rw [if_pos h62,if_pos (pre_two.2 ⟨h47,h62⟩)]
     ·rw [if_neg h62,if_neg (fun e=>h62 (pre_two.1 e).2),if_neg]
      intro e
      obtain ⟨t,ht⟩:=pre1.1 h47
      obtain ⟨u,hu⟩:=pre1.1 e
      rw [ht] at hu;injection hu with hu;omega
    ·rw [if_neg h47,if_neg (fun e=>h47 (pre_two.1 e).1)]
   ·rw [h1]
    simp only
    rw [List.drop_drop] at h2
    rw [if_neg h2.2.1,if_neg h2.1]
def dcR (L:List Nat):Except Nat (Tk × Nat):=
 match raA [] L with
 | .error e => .error e
 | .ok (l,n)=>if [63,62] <+: L.drop (n+sk blaP (L.drop n)) then (match mdP l with
  | some e => .error e
  | none => .ok (⟨1,[],[],l,false⟩,n+sk blaP (L.drop n)+2)) else .error 22
theorem dcR_is {L:List Nat} (hb:Bs L):dcR L=dcP L:=by
 unfold dcR dcP
 have h:=ra_of L.length [] L (Nat.le_refl _) hb
 rw [show atP L=atA [] L from rfl]
 rcases ha:atA [] L with e | ⟨l,m⟩
 ·rw [ha] at h
  rw [show raA [] L = .error e from h]
 ·rw [ha] at h
  simp only
  rcases h with ⟨m',h1,h2⟩ | ⟨h1,h2⟩
  ·rw [h1]
   simp only
   rw [h2]
   rfl
  ·rw [h1]
   simp only
   rw [if_neg (fun e=>h2.2.2 (List.IsPrefix.trans (by simp [List.cons_prefix_cons]) e))]
set_option maxHeartbeats 3200000 in
theorem inside_any (xs s:List Nat) (S T:ByteArray) (hS:S=txt xs) (hT:T=txt s) (hb:Bs xs) (hs:Bs s) (hl:xs.length≤1000000) (hl2:s.length≤1000) (hs0:0<s.length) (w:World) :
  Calls Tryz.prog 17 #[.string S,.string T] w fun e w'=>e = .returned (.bool (ix s xs).isSome)∧w'=w:=by
 have HBS:=Lib.hid hb
 have HSS:=Lib.hid hs
 have HT:=Lib.hid hT
 obtain ⟨n,hn⟩:∃ n,n=s.length:=⟨_,rfl⟩
 have HN:=Lib.hid hn
 have hTn:(T.size:Int)=n:=by rw [hT,txt_size,hn]
 have hSz:S.size=xs.length:=by rw [hS,txt_size]
 have hSn:(S.size:Int)=xs.length:=by rw [hSz]
 have hEX:=Lib.hid fun i j=>txt_extract xs i j
 rw [←hS] at hEX
 obtain ⟨RES,hRES⟩:∃ RES,RES=(ix s xs).isSome:=⟨_,rfl⟩
 rw [←hRES]
 have HR0:=Lib.hid hRES
 rw [←hn] at hl2 hs0
 clear hS hT hb hs hn hRES
 go_enter Tryz.func17,Tryz.ntmps17
 go_wp2
 go_loopg [5] xs.length (fun gh s5 wr=>wr=w∧∃ j:Nat,s5 = .int .i64 (j:Nat)∧Hid (RES=(ix s (xs.drop j)).isSome)∧xs.length-j≤gh∧j≤xs.length)
 case atStart=>exact ⟨rfl,0,rfl,Lib.hid (by rw [HR0.out,List.drop_zero]),by omega,by omega⟩
 case round=>
  obtain ⟨rfl,kk,rfl,hst,hgh,hkj⟩:=hrel
  by_cases hfit:kk+n≤xs.length
  ·have hfI:(kk:Int)+n≤xs.length:=by omega
   obtain ⟨t,ht⟩:∃ t,t=kk+n:=⟨_,rfl⟩
   have hsum:(kk:Int)+n=t:=by omega
   have htl:t≤xs.length:=by omega
   have htk:kk≤t:=by omega
   have hsl:∀ W,(Instr.slice 9 (.string S) (some (.int .i64 (kk:Nat))) (some (.int .i64 (t:Nat))) none).run Tryz.prog W = .ok (.string (S.extract kk t)) W:=fun W=>by
    have h1:(0:Int)≤kk∧(kk:Int)≤t:=by omega
    have h2:(t:Int)≤S.size:=by rw [hSz];omega
    simp [go_sem,h1,h2]
   have hpre:(s <+: xs.drop kk)↔(xs.drop kk).take n=s:=by rw [HN.out];exact List.prefix_iff_eq_take.trans eq_comm
   have hcut:S.extract kk t=txt ((xs.drop kk).take n):=by rw [hEX.out,show t-kk=n by omega]
   rw [hcut] at hsl
   have hst2:=hst.out
   rw [ix_at (by omega)] at hst2
   by_cases hp:s <+: xs.drop kk
   ·rw [hpre.1 hp,←HT.out] at hsl
    rw [if_pos hp] at hst2
    have HRR:Hid (RES=true):=Lib.hid hst2
    clear hst2 hpre hp hcut ht
    go_wp2
    go_ret
    exact ⟨by rw [HRR.out];rfl,rfl⟩
   ·rw [if_neg hp] at hst2
    have hnt:¬(xs.drop kk).take n=s:=fun h=>hp (hpre.2 h)
    have hl1:(txt ((xs.drop kk).take n)).toList≠T.toList:=by
     rw [HT.out,txt_toList,txt_toList]
     exact fun e=>hnt (u8L_inj ((HBS.out.drop kk).take _) HSS.out e)
    have hl3:((txt ((xs.drop kk).take n)).toList == T.toList)=false:=beq_eq_false_iff_ne.2 hl1
    generalize txt ((xs.drop kk).take n)=PC at hsl hl1 hl3
    have HST2:Hid (RES=(ix s (xs.drop (kk+1))).isSome):=Lib.hid (by
     rw [hst2]
     cases ix s (xs.drop (kk+1)) <;> rfl)
    clear hst2 hpre hp hcut hnt ht
    go_wp2
    go_roundg (xs.length-(kk+1))
    case measure=>omega
    case rel=>exact ⟨rfl,kk+1,rfl,HST2,by omega,by omega⟩
  ·have hfI:¬(kk:Int)+n≤xs.length:=by omega
   have HRR:Hid (RES=false):=Lib.hid (by rw [hst.out,ix_short (by rw [List.length_drop,←HN.out];omega)];rfl)
   go_wp2
   go_ret
   exact ⟨by rw [HRR.out];rfl,rfl⟩
def Ez {α : Type} (r:Except Nat α):Prop:=∀ e,r = .error e→e≠0
theorem Ez.ok {α : Type} (x : α):Ez (.ok x:Except Nat α):=fun e h=>by cases h
theorem Ez.err {α : Type} {n:Nat} (h:n≠0):Ez (.error n:Except Nat α):=fun e h'=>by injection h' with h';rw [←h'];exact h
theorem Ez.of {α : Type} {r:Except Nat α} {e:Nat} (h:Ez r) (hr:r = .error e):e≠0:=h e hr
theorem nm_ez (L:List Nat):Ez (nmP L):=by
 unfold nmP;split
 ·exact .ok _
 ·exact .err (by decide)
theorem up_ez (s L:List Nat):Ez (upP s L):=by
 unfold upP;split
 ·exact .err (by decide)
 ·exact .ok _
theorem qn_ez (L:List Nat):Ez (qnP L):=by
 unfold qnP
 rcases h:nmP L with e | n
 ·exact .err ((nm_ez L).of h)
 ·simp only
  split
  ·rcases h2:nmP (L.drop (n+1)) with e | m
   ·exact .err ((nm_ez _).of h2)
   ·exact .ok _
  ·exact .ok _
theorem qu_ez (q:Nat) (L:List Nat):Ez (quP q L):=by
 unfold quP
 rcases h:upP [q] L with e | i
 ·exact .err ((up_ez _ L).of h)
 ·simp only
  rcases h2:plP (L.take i) with e | v
  ·exact .err (by rw [plP_err h2];decide)
  ·exact .ok _
theorem vl_ez (L:List Nat):Ez (vlP L):=by
 unfold vlP
 split
 ·split
  ·rcases h2:quP 39 (L.drop (sk blaP L+1+sk blaP (L.drop (sk blaP L+1))+1)) with e | ⟨v,n⟩
   ·exact .err ((qu_ez _ _).of h2)
   ·exact .ok _
  ·split
   ·rcases h2:quP 34 (L.drop (sk blaP L+1+sk blaP (L.drop (sk blaP L+1))+1)) with e | ⟨v,n⟩
    ·exact .err ((qu_ez _ _).of h2)
    ·exact .ok _
   ·exact .err (by decide)
 ·exact .err (by decide)
theorem on_ez (L:List Nat):Ez (onP L):=by
 unfold onP
 rcases h:qnP L with e | n
 ·exact .err ((qn_ez L).of h)
 ·simp only
  rcases h2:vlP (L.drop n) with e | ⟨v,m⟩
  ·exact .err ((vl_ez _).of h2)
  ·exact .ok _
theorem atF_ez:∀ (f:Nat) (acc:List At) (L:List Nat),Ez (atF f acc L)
 | 0,acc,L => .ok _
 | f+1,acc,L=>by
  unfold atF
  split
  ·exact .ok _
  split
  ·rcases h:onP (L.drop (sk blaP L)) with e | ⟨a,n⟩
   ·exact .err ((on_ez _).of h)
   ·simp only
    split
    ·exact .err (by decide)
    split
    ·exact .err (by decide)
    rcases h2:atF f (acc++[a]) (L.drop (sk blaP L+n)) with e | ⟨l,m⟩
    ·exact .err ((atF_ez f _ _).of h2)
    ·exact .ok _
  ·exact .ok _
theorem md_ez {l:List At} {e:Nat} (h:mdP l=some e):e≠0:=by
 have m3:∀ l e,md3 l=some e→e≠0:=fun l e h=>by
  unfold md3 at h
  split at h
  ·cases h
  ·injection h with h;omega
 have m2:∀ l e,md2 l=some e→e≠0:=fun l e h=>by
  unfold md2 at h
  split at h
  ·cases h
  ·split at h
   ·split at h
    ·exact m3 _ _ h
    ·injection h with h;omega
   ·exact m3 _ _ h
 have m1:∀ l e,md1 l=some e→e≠0:=fun l e h=>by
  unfold md1 at h
  split at h
  ·cases h
  ·split at h
   ·split at h
    ·exact m2 _ _ h
    ·injection h with h;omega
   ·exact m2 _ _ h
 unfold mdP at h
 split at h
 ·injection h with h;omega
 ·split at h
  ·exact m1 _ _ h
  ·injection h with h;omega
theorem plus_ez {n:Nat} {r:Except Nat (Tk × Nat)} (h:Ez r):Ez (plus n r):=by
 rcases r with e | ⟨t,m⟩
 ·exact .err (h.of rfl)
 ·exact .ok _
theorem tk_ez (first:Bool) (L:List Nat):Ez (tkP first L):=by
 unfold tkP
 split
 ·refine plus_ez ?_
  unfold dcP
  rcases h:atP (L.drop 5) with e | ⟨l,n⟩
  ·exact .err ((atF_ez _ _ _).of h)
  ·simp only
   split
   ·rcases h2:mdP l with _ | e
    ·exact .ok _
    ·exact .err (md_ez h2)
   ·exact .err (by decide)
 split
 ·refine plus_ez ?_
  unfold piP
  rcases h:nmP (L.drop 2) with e | n
  ·exact .err ((nm_ez _).of h)
  ·simp only
   split
   ·exact .err (by decide)
   split
   ·exact .err (by decide)
   rcases h2:upP [63,62] ((L.drop 2).drop (n+sk blaP ((L.drop 2).drop n))) with e | i
   ·exact .err ((up_ez _ _).of h2)
   ·exact .ok _
 split
 ·refine plus_ez ?_
  unfold rmP
  rcases h:upP [45,45] (L.drop 4) with e | i
  ·exact .err ((up_ez _ _).of h)
  ·simp only
   split
   ·exact .ok _
   ·exact .err (by decide)
 split
 ·refine plus_ez ?_
  unfold rwP
  rcases h:upP [93,93,62] (L.drop 9) with e | i
  ·exact .err ((up_ez _ _).of h)
  ·exact .ok _
 split
 ·exact .err (by decide)
 split
 ·refine plus_ez ?_
  unfold enP
  rcases h:qnP (L.drop 2) with e | n
  ·exact .err ((qn_ez _).of h)
  ·simp only
   split
   ·exact .ok _
   ·exact .err (by decide)
 split
 ·refine plus_ez ?_
  unfold bgP
  rcases h:qnP (L.drop 1) with e | n
  ·exact .err ((qn_ez _).of h)
  ·simp only
   rcases h2:atP ((L.drop 1).drop n) with e | ⟨l,m⟩
   ·exact .err ((atF_ez _ _ _).of h2)
   ·simp only
    split
    ·split
     ·exact .ok _
     ·exact .err (by decide)
    ·split
     ·exact .ok _
     ·exact .err (by decide)
 ·unfold wdP
  split
  ·exact .err (by decide)
  rcases h:told (L.take (wdN L)) with _ | v
  ·exact .err (by decide)
  ·exact .ok _
theorem tsF_ez:∀ (f k:Nat) (L:List Nat) (a e:Nat),tsF f k L = .error (a,e)→e≠0
 | 0,k,L,a,e,h=>by cases h
 | f+1,k,L,a,e,h=>by
  unfold tsF at h
  split at h
  ·cases h
  rcases h1:tkP (k == 0) L with e' | ⟨t,n⟩
  ·rw [h1] at h
   injection h with h;injection h with _ h
   rw [←h];exact (tk_ez _ _).of h1
  ·rw [h1] at h
   simp only at h
   rcases h2:tsF f (k+n) (L.drop n) with ⟨a',e'⟩ | l
   ·rw [h2] at h
    injection h with h;injection h with _ h
    rw [←h];exact tsF_ez f _ _ a' e' h2
   ·rw [h2] at h;cases h
theorem sc_ez {b:List Nat} {a e:Nat} (h:scP b = .error (a,e)):e≠0:=by
 unfold scP at h
 split at h
 ·injection h with h;injection h with _ h;omega
 ·exact tsF_ez _ _ _ a e h
theorem getD_some {α : Type} {l:List α} {i:Nat} {d : α} (h:i<l.length):l[i]? = some (l.getD i d):=by
 simp [List.getD,h]
theorem map_getD {m:List Tkm} {l:Tks0} (h:m.map Prod.fst=l) (i:Nat) {x:Tkm} (hx:m[i]? = some x):l.getD i tk0=x.1:=by
 rw [←h];simp [List.getD,hx]
theorem Tks.places {W:World} {B:Nat} {a:Option Addr} {n c:Nat} {m:List Tkm} {l:Tks0} (h:Tks W B (.slice a n c) m) (hm:m.map Prod.fst=l):n=l.length∧(l≠[]→∃ g,a=some ⟨g,0,none⟩∧∀ i,i<l.length→W.cell? ⟨g,i*6+5,none⟩=some (.int .i64 ((l.getD i tk0).2:Nat))):=by
 obtain ⟨h1,h2⟩:=h.at
 have hl:m.length=l.length:=by rw [←hm,List.length_map]
 refine ⟨by omega,fun hne=>?_⟩
 obtain ⟨g,hg,_,h6⟩:=h2 (fun e=>hne (by rw [←hm,e];rfl))
 refine ⟨g,hg,fun i hi=>?_⟩
 have hx:m[i]? = some m[i]:=List.getElem?_eq_getElem (by omega)
 rw [map_getD hm i hx]
 exact (h6 i _ hx).p
set_option maxHeartbeats 6400000 in
theorem places_long (ao:Option Addr) (c n:Nat) (cut:Int) (w:World) (hT:TT w) (hn:2000<n) :
  Calls Tryz.prog 6 #[.slice ao n c,.int .i64 cut] w fun e w'=>e = .returned (.bool true)∧Below w.heap.size w w':=by
 have KA:=Lib.hid (alive_any w hT)
 have e1:(2000:Int)<n:=by omega
 clear hT hn
 go_enter Tryz.func6,Tryz.ntmps6
 go_wp2_with (go_at_call 8;(with_reducible refine KA.out.mono ?_);rintro e w1 ⟨rfl,hb⟩;have HB1:=Lib.hid hb;clear hb)
 go_ret
 exact ⟨rfl,HB1.out⟩
def NoMark (w:World) (ao:Option Addr) (n:Nat):Prop:=
 (¬(2:Int)<n)∨(∃ g off x,ao=some ⟨g,off,none⟩∧(2:Int)<n∧(∀ W,Below w.heap.size w W→W.cell? ⟨g,off,none⟩=some (.int .u8 x))∧x≠239) ∨
  (∃ g off x,ao=some ⟨g,off,none⟩∧(2:Int)<n∧(∀ W,Below w.heap.size w W→W.cell? ⟨g,off,none⟩=some (.int .u8 239))∧(∀ W,Below w.heap.size w W→W.cell? ⟨g,off+1,none⟩=some (.int .u8 x))∧x≠187)
theorem noMark {w:World} {ao:Option Addr} {c:Nat} {xs:List Nat} (h:Sl w ao c xs) (hn:¬(2<xs.length∧xs.getD 0 0=239∧xs.getD 1 0=187)):NoMark w ao xs.length:=by
 by_cases h2:2<xs.length
 ·rcases h.src with h0 | ⟨g,off,e,hcell⟩
  ·rw [h0] at h2;simp at h2
  have c0:=hcell 0 (by omega)
  have c1:=hcell 1 (by omega)
  rw [Nat.add_zero] at c0
  by_cases hx:xs.getD 0 0=239
  ·rw [hx] at c0
   exact .inr (.inr ⟨g,off,_,e,by omega,fun W hW=>(hW.cell (World.block_lt_of_cell? w _ c0)).trans c0,fun W hW=>(hW.cell (World.block_lt_of_cell? w _ c1)).trans c1,fun e=>hn ⟨h2,hx,by omega⟩⟩)
  ·exact .inr (.inl ⟨g,off,_,e,by omega,fun W hW=>(hW.cell (World.block_lt_of_cell? w _ c0)).trans c0,by omega⟩)
 ·exact .inl (by omega)
set_option maxHeartbeats 12800000 in
theorem places_err (ao:Option Addr) (c n:Nat) (cut:Int) (w:World) (T:ByteArray) (a er:Nat) (her:er≠0) (hm:¬(2000:Int)<n)
  (KA:Hid (Calls Tryz.prog 8 #[] w fun e w'=>e = .returned (.bool true)∧Below w.heap.size w w'))
  (HCV:Hid (∀ W,Below w.heap.size w W→(convert 22 9 (.slice ao n c)).run Tryz.prog W = .ok (.string T) W))
  (KI:Hid (∀ W,Calls Tryz.prog 17 #[.string T,.string ⟨#[13]⟩] W fun e w'=>e = .returned (.bool false)∧w'=W))
  (K10:Hid (∀ W,Below w.heap.size w W→Calls Tryz.prog 10 #[.slice ao n c] W fun e w'=>e = .returned (.tuple #[.slice none 0 0,.int .i64 (a:Nat),.int .i64 (er:Nat)])∧Below w.heap.size w w'))
  (hB:NoMark w ao n) :
  Calls Tryz.prog 6 #[.slice ao n c,.int .i64 cut] w fun e w'=>e = .returned (.bool true)∧Below w.heap.size w w':=by
 have hne:((er:Int) != 0)=true:=bne_iff_ne.2 (by omega)
 have hne2:¬(er:Int)=0:=by omega
 rcases hB with e2 | ⟨g,off,x,rfl,e2,hc0,hx⟩ | ⟨g,off,x,rfl,e2,hc0,hc1,hx⟩
 ·go_enter Tryz.func6,Tryz.ntmps6
  go_wp2_with (first
   | (go_at_call 8;(with_reducible refine KA.out.mono ?_);rintro e w1 ⟨rfl,hb⟩;have HB1:=Lib.hid hb;have hcv1:=HCV.out w1 hb;clear hb)
   | (go_at_call 17;(with_reducible refine (KI.out _).mono ?_);rintro e w2 ⟨rfl,rfl⟩)
   | (go_at_call 10;(with_reducible refine (K10.out _ HB1.out).mono ?_);rintro e w3 ⟨rfl,hb⟩;have HB3:=Lib.hid hb;clear hb))
  go_ret
  exact ⟨rfl,HB3.out⟩
 ·have HC0:=Lib.hid hc0
  have hx1:(x == 239)=false:=beq_eq_false_iff_ne.2 hx
  clear hc0
  go_enter Tryz.func6,Tryz.ntmps6
  go_wp2_with (first
   | (go_at_call 8;(with_reducible refine KA.out.mono ?_);rintro e w1 ⟨rfl,hb⟩;have HB1:=Lib.hid hb;have hcv1:=HCV.out w1 hb;have d0:=HC0.out w1 hb;clear hb)
   | (go_at_call 17;(with_reducible refine (KI.out _).mono ?_);rintro e w2 ⟨rfl,rfl⟩)
   | (go_at_call 10;(with_reducible refine (K10.out _ HB1.out).mono ?_);rintro e w3 ⟨rfl,hb⟩;have HB3:=Lib.hid hb;clear hb))
  go_ret
  exact ⟨rfl,HB3.out⟩
 ·have HC0:=Lib.hid hc0
  have HC1:=Lib.hid hc1
  have hx1:(x == 187)=false:=beq_eq_false_iff_ne.2 hx
  clear hc0 hc1
  go_enter Tryz.func6,Tryz.ntmps6
  go_wp2_with (first
   | (go_at_call 8;(with_reducible refine KA.out.mono ?_);rintro e w1 ⟨rfl,hb⟩;have HB1:=Lib.hid hb;have hcv1:=HCV.out w1 hb;have d0:=HC0.out w1 hb;have d1:=HC1.out w1 hb;clear hb)
   | (go_at_call 17;(with_reducible refine (KI.out _).mono ?_);rintro e w2 ⟨rfl,rfl⟩)
   | (go_at_call 10;(with_reducible refine (K10.out _ HB1.out).mono ?_);rintro e w3 ⟨rfl,hb⟩;have HB3:=Lib.hid hb;clear hb))
  go_ret
  exact ⟨rfl,HB3.out⟩
set_option maxHeartbeats 25600000 in
theorem places_ok (ao:Option Addr) (c n:Nat) (cut:Int) (w:World) (T:ByteArray) (l:Tks0) (N:Nat) (HN:Hid (N=l.length)) (hm:¬(2000:Int)<n) (hnc:n≤c) (hNb:N≤2000)
  (HX0:Hid (l=[]→n=0)) (HPL:Hid (∀ i,i<N→(l.getD i tk0).2<n∧(i=0→(l.getD i tk0).2=0)∧(0<i→(l.getD (i-1) tk0).2<(l.getD i tk0).2)))
  (KA:Hid (Calls Tryz.prog 8 #[] w fun e w'=>e = .returned (.bool true)∧Below w.heap.size w w'))
  (HCV:Hid (∀ W,Below w.heap.size w W→(convert 22 9 (.slice ao n c)).run Tryz.prog W = .ok (.string T) W))
  (KI:Hid (∀ W,Calls Tryz.prog 17 #[.string T,.string ⟨#[13]⟩] W fun e w'=>e = .returned (.bool false)∧w'=W))
  (K10:Hid (∀ W,Below w.heap.size w W→Calls Tryz.prog 10 #[.slice ao n c] W fun e w'=>Below w.heap.size w w'∧∃ a n3 c3,e = .returned (.tuple #[.slice a n3 c3,.int .i64 0,.int .i64 0])∧N=n3∧(n3≠0→∃ g,a=some ⟨g,0,none⟩∧∀ W',Below w'.heap.size w' W'→∀ i,i<n3→W'.cell? ⟨g,i*6+5,none⟩=some (.int .i64 ((l.getD i tk0).2:Nat)))))
  (K10b:Hid (∀ k,k<N→∀ W,Below w.heap.size w W→Calls Tryz.prog 10 #[.slice ao (l.getD k tk0).2 c] W fun e w'=>Below w.heap.size w w'∧∃ a c',e = .returned (.tuple #[.slice a k c',.int .i64 0,.int .i64 0])))
  (hB:NoMark w ao n) :
  Calls Tryz.prog 6 #[.slice ao n c,.int .i64 cut] w fun e w'=>e = .returned (.bool true)∧Below w.heap.size w w':=by
 rcases hB with e2 | ⟨g,off,x,rfl,e2,hc0,hx⟩ | ⟨g,off,x,rfl,e2,hc0,hc1,hx⟩
 ·go_enter Tryz.func6,Tryz.ntmps6
  go_wp2_with (first
   | (go_at_call 8;(with_reducible refine KA.out.mono ?_);rintro e w1 ⟨rfl,hb⟩;have HB1:=Lib.hid hb;have hcv1:=HCV.out w1 hb;clear hb)
   | (go_at_call 17;(with_reducible refine (KI.out _).mono ?_);rintro e w2 ⟨rfl,rfl⟩)
   | (go_at_call 10;(with_reducible refine (K10.out _ HB1.out).mono ?_);rintro e w3 ⟨hb3,a,N3,c3,rfl,hN3,hcl⟩;have HB3:=Lib.hid hb3;clear hb3))
  subst hN3
  by_cases hN:N=0
  ·subst hN
   have hl0:l=[]:=List.eq_nil_of_length_eq_zero HN.out.symm
   have hx0:n=0:=HX0.out hl0
   subst hx0
   clear hcl
   go_loopg [8] 0 (fun gh s8 wr=>wr=w3∧s8 = .int .i64 0)
   case atStart=>exact ⟨rfl,rfl⟩
   case round=>
    obtain ⟨rfl,rfl⟩:=hrel
    by_cases hc1:cut<0
    ·go_wp2
     go_ret
     exact ⟨rfl,HB3.out⟩
    ·have hc2:0≤cut:=by omega
     go_wp2
     go_ret
     exact ⟨rfl,HB3.out⟩
  ·obtain ⟨g3,rfl,hcells⟩:=hcl hN
   have HCL:=Lib.hid hcells
   clear hcells hcl
   go_loopg [8] N (fun gh s8 wr=>∃ i:Nat,s8 = .int .i64 (i:Nat)∧Hid (Below w3.heap.size w3 wr)∧N-i≤gh∧i≤N)
   case atStart=>exact ⟨0,rfl,Lib.hid (Below.refl _ _),by omega,by omega⟩
   case round=>
    obtain ⟨i,rfl,hbw,hgh,hin⟩:=hrel
    have HBW:=Lib.hid (HB3.out.trans (hbw.out.mono HB3.out.size))
    by_cases hlt:i<N
    ·have hiI:(i:Int)<N:=by omega
     have hc:=HCL.out wr hbw.out i hlt
     obtain ⟨p1,p2,p3⟩:=HPL.out i hlt
     rcases Nat.eq_zero_or_pos i with hi0 | hi0
     ·have q2:=p2 hi0
      rw [q2] at hc
      subst hi0
      rw [Nat.zero_mul,Nat.zero_add] at hc
      have hnI:¬(n:Int)≤0:=by have:=p1;omega
      replace hc:wr.cell? ⟨g3,5,none⟩=some (.int .i64 0):=hc
      clear p1 p2 p3 q2
      go_upto_region 11 with fail
      go_quiet (fail)
      go_wp2
      go_roundg (N-1)
      case measure=>omega
      case rel=>exact ⟨1,rfl,Lib.hid (below_drewN hbw.out _),by omega,by omega⟩
     ·obtain ⟨j,rfl⟩:∃ j,i=j+1:=⟨i-1,by omega⟩
      have hc2:=HCL.out wr hbw.out j (by omega)
      have q3:=p3 (by omega)
      rw [Nat.add_sub_cancel] at q3
      generalize (l.getD (j+1) tk0).2=pi at hc p1 q3
      generalize (l.getD j tk0).2=pj at hc2 q3
      obtain ⟨i,hi⟩:∃ i,i=j+1:=⟨_,rfl⟩
      have hsub:(i:Int)-1=j:=by omega
      have hwr:IntKind.i64.wrap ((i:Int)-1)=(j:Int):=by rw [hsub,IntKind.wrap_i64];omega
      have hi1:((i:Int) == 0)=false:=beq_eq_false_iff_ne.2 (by omega)
      have hi2:(0:Int)<i:=by omega
      have hp1:¬(pi:Int)≤pj:=by omega
      have hp2:¬(n:Int)≤pi:=by omega
      have hi3:decide (0<i)=true:=decide_eq_true (by omega)
      have hp3:decide (pi≤pj)=false:=decide_eq_false (by omega)
      have hp4:decide (n≤pi)=false:=decide_eq_false (by omega)
      rw [←hi] at hc hiI hgh hin ⊢
      have HI:=Lib.hid hi
      have hjl:j<N:=by omega
      have hil:i<N:=by omega
      clear p1 p2 p3 q3 hi
      go_upto_region 11 with fail
      go_quiet (fail)
      go_wp2
      go_roundg (N-(i+1))
      case measure=>omega
      case rel=>exact ⟨i+1,by go_num,Lib.hid (below_drewN hbw.out _),by omega,by omega⟩
    ·obtain rfl:i=N:=by omega
     by_cases hc1:cut<0
     ·have hNI:(0:Int)<i:=by omega
      go_wp2
      go_ret
      exact ⟨rfl,HBW.out⟩
     ·by_cases hc2:(i:Int)≤cut
      ·have hNI:(0:Int)<i:=by omega
       go_wp2
       go_ret
       exact ⟨rfl,HBW.out⟩
      ·obtain ⟨k,rfl⟩:∃ k:Nat,cut=(k:Int):=⟨cut.toNat,by omega⟩
       have hk:k<i:=by omega
       have hkI:(k:Int)<i:=by omega
       have hc:=HCL.out wr hbw.out k hk
       have p1:=(HPL.out k hk).1
       have K11:=Lib.hid fun W hW=>K10b.out k hk W hW
       generalize (l.getD k tk0).2=q at hc p1 K11
       have hsl:=slice_h ao n c q (by omega) wr
       go_wp2_with (go_at_call 10;(with_reducible refine (K11.out _ HBW.out).mono ?_);rintro e w5 ⟨hb5,a5,c5,rfl⟩;have HB5:=Lib.hid hb5;clear hb5)
       go_ret
       exact ⟨rfl,HB5.out⟩
 ·have HC0:=Lib.hid hc0
  have hx1:(x == 239)=false:=beq_eq_false_iff_ne.2 hx
  clear hc0
  go_enter Tryz.func6,Tryz.ntmps6
  go_wp2_with (first
   | (go_at_call 8;(with_reducible refine KA.out.mono ?_);rintro e w1 ⟨rfl,hb⟩;have HB1:=Lib.hid hb;have hcv1:=HCV.out w1 hb;have d0:=HC0.out w1 hb;clear hb)
   | (go_at_call 17;(with_reducible refine (KI.out _).mono ?_);rintro e w2 ⟨rfl,rfl⟩)
   | (go_at_call 10;(with_reducible refine (K10.out _ HB1.out).mono ?_);rintro e w3 ⟨hb3,a,N3,c3,rfl,hN3,hcl⟩;have HB3:=Lib.hid hb3;clear hb3))
  subst hN3
  by_cases hN:N=0
  ·subst hN
   have hl0:l=[]:=List.eq_nil_of_length_eq_zero HN.out.symm
   have hx0:n=0:=HX0.out hl0
   subst hx0
   clear hcl
   go_loopg [8] 0 (fun gh s8 wr=>wr=w3∧s8 = .int .i64 0)
   case atStart=>exact ⟨rfl,rfl⟩
   case round=>
    obtain ⟨rfl,rfl⟩:=hrel
    by_cases hc1:cut<0
    ·go_wp2
     go_ret
     exact ⟨rfl,HB3.out⟩
    ·have hc2:0≤cut:=by omega
     go_wp2
     go_ret
     exact ⟨rfl,HB3.out⟩
  ·obtain ⟨g3,rfl,hcells⟩:=hcl hN
   have HCL:=Lib.hid hcells
   clear hcells hcl
   go_loopg [8] N (fun gh s8 wr=>∃ i:Nat,s8 = .int .i64 (i:Nat)∧Hid (Below w3.heap.size w3 wr)∧N-i≤gh∧i≤N)
   case atStart=>exact ⟨0,rfl,Lib.hid (Below.refl _ _),by omega,by omega⟩
   case round=>
    obtain ⟨i,rfl,hbw,hgh,hin⟩:=hrel
    have HBW:=Lib.hid (HB3.out.trans (hbw.out.mono HB3.out.size))
    by_cases hlt:i<N
    ·have hiI:(i:Int)<N:=by omega
     have hc:=HCL.out wr hbw.out i hlt
     obtain ⟨p1,p2,p3⟩:=HPL.out i hlt
     rcases Nat.eq_zero_or_pos i with hi0 | hi0
     ·have q2:=p2 hi0
      rw [q2] at hc
      subst hi0
      rw [Nat.zero_mul,Nat.zero_add] at hc
      have hnI:¬(n:Int)≤0:=by have:=p1;omega
      replace hc:wr.cell? ⟨g3,5,none⟩=some (.int .i64 0):=hc
      clear p1 p2 p3 q2
      go_upto_region 11 with fail
      go_quiet (fail)
      go_wp2
      go_roundg (N-1)
      case measure=>omega
      case rel=>exact ⟨1,rfl,Lib.hid (below_drewN hbw.out _),by omega,by omega⟩
     ·obtain ⟨j,rfl⟩:∃ j,i=j+1:=⟨i-1,by omega⟩
      have hc2:=HCL.out wr hbw.out j (by omega)
      have q3:=p3 (by omega)
      rw [Nat.add_sub_cancel] at q3
      generalize (l.getD (j+1) tk0).2=pi at hc p1 q3
      generalize (l.getD j tk0).2=pj at hc2 q3
      obtain ⟨i,hi⟩:∃ i,i=j+1:=⟨_,rfl⟩
      have hsub:(i:Int)-1=j:=by omega
      have hwr:IntKind.i64.wrap ((i:Int)-1)=(j:Int):=by rw [hsub,IntKind.wrap_i64];omega
      have hi1:((i:Int) == 0)=false:=beq_eq_false_iff_ne.2 (by omega)
      have hi2:(0:Int)<i:=by omega
      have hp1:¬(pi:Int)≤pj:=by omega
      have hp2:¬(n:Int)≤pi:=by omega
      have hi3:decide (0<i)=true:=decide_eq_true (by omega)
      have hp3:decide (pi≤pj)=false:=decide_eq_false (by omega)
      have hp4:decide (n≤pi)=false:=decide_eq_false (by omega)
      rw [←hi] at hc hiI hgh hin ⊢
      have HI:=Lib.hid hi
      have hjl:j<N:=by omega
      have hil:i<N:=by omega
      clear p1 p2 p3 q3 hi
      go_upto_region 11 with fail
      go_quiet (fail)
      go_wp2
      go_roundg (N-(i+1))
      case measure=>omega
      case rel=>exact ⟨i+1,by go_num,Lib.hid (below_drewN hbw.out _),by omega,by omega⟩
    ·obtain rfl:i=N:=by omega
     by_cases hc1:cut<0
     ·have hNI:(0:Int)<i:=by omega
      go_wp2
      go_ret
      exact ⟨rfl,HBW.out⟩
     ·by_cases hc2:(i:Int)≤cut
      ·have hNI:(0:Int)<i:=by omega
       go_wp2
       go_ret
       exact ⟨rfl,HBW.out⟩
      ·obtain ⟨k,rfl⟩:∃ k:Nat,cut=(k:Int):=⟨cut.toNat,by omega⟩
       have hk:k<i:=by omega
       have hkI:(k:Int)<i:=by omega
       have hc:=HCL.out wr hbw.out k hk
       have p1:=(HPL.out k hk).1
       have K11:=Lib.hid fun W hW=>K10b.out k hk W hW
       generalize (l.getD k tk0).2=q at hc p1 K11
       have hsl:=slice_h (some ⟨g,off,none⟩) n c q (by omega) wr
       go_wp2_with (go_at_call 10;(with_reducible refine (K11.out _ HBW.out).mono ?_);rintro e w5 ⟨hb5,a5,c5,rfl⟩;have HB5:=Lib.hid hb5;clear hb5)
       go_ret
       exact ⟨rfl,HB5.out⟩
 ·have HC0:=Lib.hid hc0
  have HC1:=Lib.hid hc1
  have hx1:(x == 187)=false:=beq_eq_false_iff_ne.2 hx
  clear hc0 hc1
  go_enter Tryz.func6,Tryz.ntmps6
  go_wp2_with (first
   | (go_at_call 8;(with_reducible refine KA.out.mono ?_);rintro e w1 ⟨rfl,hb⟩;have HB1:=Lib.hid hb;have hcv1:=HCV.out w1 hb;have d0:=HC0.out w1 hb;have d1:=HC1.out w1 hb;clear hb)
   | (go_at_call 17;(with_reducible refine (KI.out _).mono ?_);rintro e w2 ⟨rfl,rfl⟩)
   | (go_at_call 10;(with_reducible refine (K10.out _ HB1.out).mono ?_);rintro e w3 ⟨hb3,a,N3,c3,rfl,hN3,hcl⟩;have HB3:=Lib.hid hb3;clear hb3))
  subst hN3
  by_cases hN:N=0
  ·subst hN
   have hl0:l=[]:=List.eq_nil_of_length_eq_zero HN.out.symm
   have hx0:n=0:=HX0.out hl0
   subst hx0
   clear hcl
   go_loopg [8] 0 (fun gh s8 wr=>wr=w3∧s8 = .int .i64 0)
   case atStart=>exact ⟨rfl,rfl⟩
   case round=>
    obtain ⟨rfl,rfl⟩:=hrel
    by_cases hc1:cut<0
    ·go_wp2
     go_ret
     exact ⟨rfl,HB3.out⟩
    ·have hc2:0≤cut:=by omega
     go_wp2
     go_ret
     exact ⟨rfl,HB3.out⟩
  ·obtain ⟨g3,rfl,hcells⟩:=hcl hN
   have HCL:=Lib.hid hcells
   clear hcells hcl
   go_loopg [8] N (fun gh s8 wr=>∃ i:Nat,s8 = .int .i64 (i:Nat)∧Hid (Below w3.heap.size w3 wr)∧N-i≤gh∧i≤N)
   case atStart=>exact ⟨0,rfl,Lib.hid (Below.refl _ _),by omega,by omega⟩
   case round=>
    obtain ⟨i,rfl,hbw,hgh,hin⟩:=hrel
    have HBW:=Lib.hid (HB3.out.trans (hbw.out.mono HB3.out.size))
    by_cases hlt:i<N
    ·have hiI:(i:Int)<N:=by omega
     have hc:=HCL.out wr hbw.out i hlt
     obtain ⟨p1,p2,p3⟩:=HPL.out i hlt
     rcases Nat.eq_zero_or_pos i with hi0 | hi0
     ·have q2:=p2 hi0
      rw [q2] at hc
      subst hi0
      rw [Nat.zero_mul,Nat.zero_add] at hc
      have hnI:¬(n:Int)≤0:=by have:=p1;omega
      replace hc:wr.cell? ⟨g3,5,none⟩=some (.int .i64 0):=hc
      clear p1 p2 p3 q2
      go_upto_region 11 with fail
      go_quiet (fail)
      go_wp2
      go_roundg (N-1)
      case measure=>omega
      case rel=>exact ⟨1,rfl,Lib.hid (below_drewN hbw.out _),by omega,by omega⟩
     ·obtain ⟨j,rfl⟩:∃ j,i=j+1:=⟨i-1,by omega⟩
      have hc2:=HCL.out wr hbw.out j (by omega)
      have q3:=p3 (by omega)
      rw [Nat.add_sub_cancel] at q3
      generalize (l.getD (j+1) tk0).2=pi at hc p1 q3
      generalize (l.getD j tk0).2=pj at hc2 q3
      obtain ⟨i,hi⟩:∃ i,i=j+1:=⟨_,rfl⟩
      have hsub:(i:Int)-1=j:=by omega
      have hwr:IntKind.i64.wrap ((i:Int)-1)=(j:Int):=by rw [hsub,IntKind.wrap_i64];omega
      have hi1:((i:Int) == 0)=false:=beq_eq_false_iff_ne.2 (by omega)
      have hi2:(0:Int)<i:=by omega
      have hp1:¬(pi:Int)≤pj:=by omega
      have hp2:¬(n:Int)≤pi:=by omega
      have hi3:decide (0<i)=true:=decide_eq_true (by omega)
      have hp3:decide (pi≤pj)=false:=decide_eq_false (by omega)
      have hp4:decide (n≤pi)=false:=decide_eq_false (by omega)
      rw [←hi] at hc hiI hgh hin ⊢
      have HI:=Lib.hid hi
      have hjl:j<N:=by omega
      have hil:i<N:=by omega
      clear p1 p2 p3 q3 hi
      go_upto_region 11 with fail
      go_quiet (fail)
      go_wp2
      go_roundg (N-(i+1))
      case measure=>omega
      case rel=>exact ⟨i+1,by go_num,Lib.hid (below_drewN hbw.out _),by omega,by omega⟩
    ·obtain rfl:i=N:=by omega
     by_cases hc1:cut<0
     ·have hNI:(0:Int)<i:=by omega
      go_wp2
      go_ret
      exact ⟨rfl,HBW.out⟩
     ·by_cases hc2:(i:Int)≤cut
      ·have hNI:(0:Int)<i:=by omega
       go_wp2
       go_ret
       exact ⟨rfl,HBW.out⟩
      ·obtain ⟨k,rfl⟩:∃ k:Nat,cut=(k:Int):=⟨cut.toNat,by omega⟩
       have hk:k<i:=by omega
       have hkI:(k:Int)<i:=by omega
       have hc:=HCL.out wr hbw.out k hk
       have p1:=(HPL.out k hk).1
       have K11:=Lib.hid fun W hW=>K10b.out k hk W hW
       generalize (l.getD k tk0).2=q at hc p1 K11
       have hsl:=slice_h (some ⟨g,off,none⟩) n c q (by omega) wr
       go_wp2_with (go_at_call 10;(with_reducible refine (K11.out _ HBW.out).mono ?_);rintro e w5 ⟨hb5,a5,c5,rfl⟩;have HB5:=Lib.hid hb5;clear hb5)
       go_ret
       exact ⟨rfl,HB5.out⟩
theorem ts_len:∀ (f k:Nat) (L:List Nat) (l:Tks0),L.length≤f→Bs L→tsA k L = .ok l→l.length≤L.length
 | f,k,L,l,hf,hb,h=>by
  by_cases hne:L=[]
  ·subst hne;rw [ts_nil h];exact Nat.le_refl _
  obtain ⟨t,n,r,h1,h2,rfl,n0,nl⟩:=ts_cons hb hne h
  cases f with
  | zero=>exact absurd (List.eq_nil_of_length_eq_zero (by omega)) hne
  | succ f=>
   have:=ts_len f (k+n) (L.drop n) r (by rw [List.length_drop];omega) (hb.drop _) h2
   rw [List.length_drop] at this
   simp only [List.length_cons];omega
theorem lin_len2 (b:List Nat):(lin false b).length≤b.length:=lin_len b
theorem sc_len {b:List Nat} {l:Tks0} (hb:Bs b) (h:scP b = .ok l):l.length≤b.length:=by
 unfold scP at h
 split at h
 ·cases h
 ·have hs:=strip_len b
  have hbs:Bs (stripP b):=by
   unfold stripP;split
   ·exact hb.drop _
   ·exact hb
  have:=ts_len _ 0 _ l (Nat.le_refl _) (lin_bs hbs) h
  have:=lin_len (stripP b)
  omega
set_option maxHeartbeats 3200000 in
theorem places_main (ao:Option Addr) (c:Nat) (xs:List Nat) (cut:Int) (w:World) (hT:TT w) (h:Sl w ao c xs) (hm:xs.length≤2000) :
  Calls Tryz.prog 6 #[.slice ao xs.length c,.int .i64 cut] w fun e w'=>e = .returned (.bool true)∧Below w.heap.size w w':=by
 have KA:=Lib.hid (alive_any w hT)
 have KI:Hid (∀ W,Calls Tryz.prog 17 #[.string (txt xs),.string ⟨#[13]⟩] W fun e w'=>e = .returned (.bool (ix [13] xs).isSome)∧w'=W):=Lib.hid fun W=>inside_any xs [13] _ _ rfl rfl h.bs (by intro x hx;simp at hx;omega) (by omega) (by decide) (by decide) W
 have e1:¬(2000:Int)<xs.length:=by omega
 have HCV:=Lib.hid fun (W:World) (hW:Below w.heap.size w W)=>conv_txt (h.below hW)
 by_cases h13:(ix [13] xs).isSome=true
 ·rw [h13] at KI
  obtain ⟨T,hTx⟩:∃ T,T=txt xs:=⟨_,rfl⟩
  rw [←hTx] at KI HCV
  clear hT h h13 hTx
  generalize xs.length=n at *
  go_enter Tryz.func6,Tryz.ntmps6
  go_wp2_with (first
   | (go_at_call 8;(with_reducible refine KA.out.mono ?_);rintro e w1 ⟨rfl,hb⟩;have HB1:=Lib.hid hb;have hcv1:=HCV.out w1 hb;clear hb)
   | (go_at_call 17;(with_reducible refine (KI.out _).mono ?_);rintro e w2 ⟨rfl,rfl⟩))
  go_ret
  exact ⟨rfl,HB1.out⟩
 have h13':(ix [13] xs).isSome=false:=by simpa using h13
 rw [h13'] at KI
 have H13:13∉xs:=ix1_none.1 (by simpa using h13')
 by_cases hbom:2<xs.length∧xs.getD 0 0=239∧xs.getD 1 0=187
 ·obtain ⟨b1,b2,b3⟩:=hbom
  have b1':(2:Int)<xs.length:=by omega
  rcases h.src with h0 | ⟨g,off,rfl,hcell⟩
  ·rw [h0] at b1;simp at b1
  have c0:=hcell 0 (by omega)
  have c1:=hcell 1 (by omega)
  rw [b2] at c0
  rw [b3] at c1
  rw [Nat.add_zero] at c0
  have HC0:=Lib.hid fun (W:World) (hW:Below w.heap.size w W)=>(hW.cell (World.block_lt_of_cell? w _ c0)).trans c0
  have HC1:=Lib.hid fun (W:World) (hW:Below w.heap.size w W)=>(hW.cell (World.block_lt_of_cell? w _ c1)).trans c1
  obtain ⟨T,hTx⟩:∃ T,T=txt xs:=⟨_,rfl⟩
  rw [←hTx] at KI HCV
  clear hT h h13 h13' hTx hcell c0 c1 b2 b3 H13
  generalize xs.length=n at *
  go_enter Tryz.func6,Tryz.ntmps6
  go_wp2_with (first
   | (go_at_call 8;(with_reducible refine KA.out.mono ?_);rintro e w1 ⟨rfl,hb⟩;have HB1:=Lib.hid hb;have hcv1:=HCV.out w1 hb;have d0:=HC0.out w1 hb;have d1:=HC1.out w1 hb;clear hb)
   | (go_at_call 17;(with_reducible refine (KI.out _).mono ?_);rintro e w2 ⟨rfl,rfl⟩))
  go_ret
  exact ⟨rfl,HB1.out⟩
 have HB:=noMark h hbom
 rcases hs:scP xs with ⟨a,er⟩ | l
 ·refine places_err ao c xs.length cut w (txt xs) a er (sc_ez hs) e1 KA HCV KI (Lib.hid fun W hW=>?_) HB
  refine (scan_any ao c xs W (h.below hW) (by omega) (hT.grow hW)).mono ?_
  rw [hs]
  rintro e w' ⟨hb,rfl⟩
  exact ⟨rfl,hW.trans (hb.mono hW.size)⟩
 ·obtain ⟨p1,p2⟩:=places_plain h.bs H13 hbom hs
  have hlen:=sc_len h.bs hs
  refine places_ok ao c xs.length cut w (txt xs) l l.length (Lib.hid rfl) e1 h.le (by omega) (Lib.hid fun e=>by rw [p1.1 e];rfl) (Lib.hid fun i hi=>⟨(p2 i hi).1,(p2 i hi).2.1,(p2 i hi).2.2.1⟩) KA HCV KI (Lib.hid fun W hW=>?_) (Lib.hid fun k hk W hW=>?_) HB
  ·refine (scan_any ao c xs W (h.below hW) (by omega) (hT.grow hW)).mono ?_
   rw [hs]
   rintro e w' ⟨hb,a,n,c3,m,rfl,hml,htk⟩
   obtain ⟨hn,hg⟩:=htk.places hml
   refine ⟨hW.trans (hb.mono hW.size),a,n,c3,rfl,hn.symm,fun hne=>?_⟩
   obtain ⟨g,rfl,hc⟩:=hg (fun e=>hne (by rw [hn,e];rfl))
   exact ⟨g,rfl,fun W' hW' i hi=>by
    have h1:=hc i (by omega)
    exact (hW'.cell (World.block_lt_of_cell? _ _ h1)).trans h1⟩
  ·have hq:=(p2 k hk).1
   have hcutS:Sl W ao c (xs.take (l.getD k tk0).2):=by
    have h1:=(h.below hW).cut' 0 (l.getD k tk0).2 (by omega)
    rw [cutA_zero,List.drop_zero,Nat.sub_zero] at h1
    exact h1
   have htl:(xs.take (l.getD k tk0).2).length=(l.getD k tk0).2:=by rw [List.length_take];omega
   have K:=scan_any ao c _ W hcutS (by rw [htl];omega) (hT.grow hW)
   rw [htl,(p2 k hk).2.2.2] at K
   refine K.mono ?_
   rintro e w' ⟨hb,a,n,c3,m,rfl,hml,htk⟩
   have hn:=(htk.places hml).1
   rw [List.length_take,Nat.min_eq_left (by omega)] at hn
   exact ⟨hW.trans (hb.mono hW.size),a,c3,by rw [hn]⟩
theorem places_all (ao:Option Addr) (c:Nat) (xs:List Nat) (cut:Int) (w:World) (hT:TT w) (h:Sl w ao c xs) :
  Calls Tryz.prog 6 #[.slice ao xs.length c,.int .i64 cut] w fun e w'=>e = .returned (.bool true)∧Below w.heap.size w w':=by
 by_cases hm:xs.length≤2000
 ·exact places_main ao c xs cut w hT h hm
 ·exact places_long ao c xs.length cut w hT (by omega)
end
end Go.Proofs.YtbogfailbgbdoaaGreatDoor.K
