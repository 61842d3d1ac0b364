/- Part 12. -/
import Derived.Test.YtbogfailbgbdoaaGreatDoorXB11
set_option linter.unusedVariables false
set_option linter.unusedSimpArgs false
namespace Go.Proofs.YtbogfailbgbdoaaGreatDoor.K
set_option maxRecDepth 100000
section
open Go.RowKit Go.Proofs.YtbogfailbgbdoaaGreatDoor U
theorem ix_short {s L:List Nat} (h:L.length<s.length):ix s L=none:=by
 rcases hi:ix s L with _ | i
 ·rfl
 ·have:=ix_le hi;omega
theorem ix_at {s L:List Nat} {i:Nat} (hi:i<L.length):ix s (L.drop i)=if s <+: L.drop i then some 0 else (ix s (L.drop (i+1))).map (· + 1):=by
 rw [drop_cons hi]
 rfl
def RuTo (p:Nat) (xs:List Nat) (k fr er pl:Nat) (s:List Nat) (r:Option Nat) (w:World) (e:Ending) (w':World):Prop:=
 Touch (fun i=>i=p) w w'∧match r with
  | some i=>e = .returned (.string (txt ((xs.drop k).take i)))∧Rp w' p xs (k+i+s.length) fr er pl
  | none=>e = .returned (.string (txt []))∧Rp w' p xs k fr (if er=0 then 22 else er) (if er=0 then fr else pl)
section
variable (w:World) (p:Nat) (xs:List Nat) (k fr pl:Nat)
set_option maxHeartbeats 3200000 in
theorem runtil_any (s:List Nat) (T:ByteArray) (hT:T=txt s) (hs:Bs s) (hl:s.length≤1000) (hs0:0<s.length) (h:Rp w p xs k fr 0 pl) :
  Calls Tryz.prog 51 #[.pointer (some ⟨p,0,none⟩),.string T] w (RuTo p xs k fr 0 pl s (ix s (xs.drop k)) w):=by
 have H:=Lib.hid h
 have hlen:=h.len
 have hkl:=h.le
 have hbs:=Lib.hid h.bs
 have c0:=h.c0
 have c1:=h.c1
 have c3:=h.c3
 have f1:=h.blk.free 1
 obtain ⟨n,hn⟩:∃ n,n=s.length:=⟨_,rfl⟩
 have hTn:(T.size:Int)=n:=by rw [hT,txt_size,hn]
 have hTN:T.size=n:=by rw [hT,txt_size,hn]
 have hSz:(txt xs).size=xs.length:=txt_size xs
 have HN:=Lib.hid hn
 obtain ⟨RES,hRES⟩:∃ RES,RES=ix s (xs.drop k):=⟨_,rfl⟩
 rw [←hRES]
 have HR0:=Lib.hid hRES
 have KF:=Lib.hid fun (W:World) (h:Rp W p xs k fr 0 pl)=>rfail_any W p xs k fr 0 pl 22 h
 have HT:=Lib.hid hT
 have HSS:=Lib.hid hs
 have hEX:=Lib.hid fun i j=>txt_extract xs i j
 obtain ⟨S,hS⟩:∃ S,S=txt xs:=⟨_,rfl⟩
 rw [←hS] at hSz c0 hEX
 have hSn:(S.size:Int)=xs.length:=by rw [hSz]
 clear h hRES hT hs hS
 rw [←hn] at hl hs0
 clear hn
 go_enter Tryz.func51,Tryz.ntmps51
 go_wp2
 go_loopg [5] (xs.length-k) (fun gh s5 wr=>wr=w∧∃ j:Nat,s5 = .int .i64 ((k+j:Nat):Int)∧Hid (RES=(ix s (xs.drop (k+j))).map (· + j))∧xs.length-(k+j)≤gh∧k+j≤xs.length)
 case atStart=>exact ⟨rfl,0,rfl,Lib.hid (by rw [HR0.out,Nat.add_zero];simp),by omega,by omega⟩
 case round=>
  obtain ⟨rfl,j,rfl,hst,hgh,hkj⟩:=hrel
  obtain ⟨kk,hkk⟩:∃ kk,kk=k+j:=⟨_,rfl⟩
  have HKK:=Lib.hid hkk
  rw [←hkk] at hst hgh hkj ⊢
  by_cases hfit:kk+n≤xs.length
  ·have hfI:(kk:Int)+n≤xs.length:=by omega
   obtain ⟨t,ht⟩:∃ t,t=kk+n:=⟨_,rfl⟩
   have hsum:(kk:Int)+n=t:=by omega
   have htl:t≤xs.length:=by omega
   have htk:kk≤t:=by omega
   have hkkk:k≤kk:=by omega
   have hsl:∀ W,(Instr.slice 9 (.string S) (some (.int .i64 (kk:Nat))) (some (.int .i64 (t:Nat))) none).run Tryz.prog W = .ok (.string (S.extract kk t)) W:=fun W=>by
    have h1:(0:Int)≤kk∧(kk:Int)≤t:=by omega
    have h2:(t:Int)≤S.size:=by rw [hSz];omega
    simp [go_sem,h1,h2]
   have hsl2:∀ W,(Instr.slice 9 (.string S) (some (.int .i64 (k:Nat))) (some (.int .i64 (kk:Nat))) none).run Tryz.prog W = .ok (.string (S.extract k kk)) W:=fun W=>by
    have h1:(0:Int)≤k∧(k:Int)≤kk:=by omega
    have h2:(kk:Int)≤S.size:=by rw [hSz];omega
    simp [go_sem,h1,h2]
   have hpre:(s <+: xs.drop kk)↔(xs.drop kk).take n=s:=by rw [HN.out];exact List.prefix_iff_eq_take.trans eq_comm
   have hcut:S.extract kk t=txt ((xs.drop kk).take n):=by rw [hEX.out,show t-kk=n by omega]
   rw [hcut] at hsl
   have hst2:=hst.out
   rw [ix_at (by omega)] at hst2
   by_cases hp:s <+: xs.drop kk
   ·rw [hpre.1 hp,←HT.out] at hsl
    rw [if_pos hp] at hst2
    have HRR:Hid (RES=some j):=Lib.hid (by rw [hst2];simp)
    obtain ⟨PC,hPC⟩:∃ PC,PC=S.extract k kk:=⟨_,rfl⟩
    rw [←hPC] at hsl2
    have HPC:Hid (PC=txt ((xs.drop k).take j)):=Lib.hid (by rw [hPC,hEX.out,show kk-k=j by omega])
    have HTT:=Lib.hid ht
    clear hst2 hpre hp hcut hPC hkk ht
    go_upto_region 5 with fail
    go_quiet (fail)
    go_wp2
    go_ret
    rw [HRR.out]
    have hset:=(H.out.drew nq).set1 t htl
    refine ⟨((Touch.refl _ wr).drewN nq).trans (touch_set p 1 _ _),?_,?_⟩
    ·rw [←HPC.out];rfl
    ·rw [←HN.out,show k+j+n=t by have:=HKK.out;have:=HTT.out;omega];exact hset
   ·rw [if_neg hp] at hst2
    have hnt:¬(xs.drop kk).take n=s:=fun h=>hp (hpre.2 h)
    have hl1:(txt ((xs.drop kk).take n)).toList≠T.toList:=by
     rw [HT.out,txt_toList,txt_toList]
     exact fun e=>hnt (u8L_inj ((hbs.out.drop kk).take _) HSS.out e)
    have hl2:((txt ((xs.drop kk).take n)).toList == T.toList)=false:=beq_eq_false_iff_ne.2 hl1
    generalize txt ((xs.drop kk).take n)=PC at hsl hl1 hl2
    have HST2:Hid (RES=(ix s (xs.drop (k+(j+1)))).map (· + (j+1))):=Lib.hid (by
     rw [hst2,show k+(j+1)=kk+1 by omega]
     cases ix s (xs.drop (kk+1)) <;> simp;omega)
    clear hst2 hpre hp hcut hkk ht hnt hsl2
    go_wp2
    have hkk:=HKK.out
    go_roundg (xs.length-(kk+1))
    case measure=>omega
    case rel=>exact ⟨rfl,j+1,by rw [show k+(j+1)=kk+1 by omega];rfl,HST2,by omega,by omega⟩
  ·have hfI:¬(kk:Int)+n≤xs.length:=by omega
   have HRR:Hid (RES=none):=Lib.hid (by rw [hst.out,ix_short (by rw [List.length_drop,←HN.out];omega)];rfl)
   clear hkk
   go_wp2_with (go_at_call 49;refine (KF.out _ H.out).mono ?_;rintro e w2 ⟨rfl,ht2,hs2⟩;have HT2:=Lib.hid ht2;have HS2:=Lib.hid hs2;clear ht2 hs2)
   go_ret
   rw [HRR.out]
   exact ⟨HT2.out,rfl,HS2.out⟩
end
set_option maxHeartbeats 1600000 in
theorem runtil_err (w:World) (p:Nat) (xs:List Nat) (k fr er pl:Nat) (he:er≠0) (T:ByteArray) (hT:T.size≤1000) (h:Rp w p xs k fr er pl) :
  Calls Tryz.prog 51 #[.pointer (some ⟨p,0,none⟩),.string T] w fun e w'=>e = .returned (.string (txt []))∧Touch (fun i=>i=p) w w'∧Rp w' p xs k fr er pl:=by
 have H:=Lib.hid h
 have hlen:=h.len
 have hkl:=h.le
 have c0:=h.c0
 have c1:=h.c1
 have c3:=h.c3
 have hSz:(txt xs).size=xs.length:=txt_size xs
 obtain ⟨S,hS⟩:∃ S,S=txt xs:=⟨_,rfl⟩
 rw [←hS] at hSz c0
 have KF:=Lib.hid fun (W:World) (h:Rp W p xs k fr er pl)=>rfail_any W p xs k fr er pl 22 h
 simp only [if_neg he] at KF
 have heI:((er:Int) == 0)=false:=beq_eq_false_iff_ne.2 (by omega)
 have heI2:¬(er:Int)=0:=by omega
 clear h hS
 go_enter Tryz.func51,Tryz.ntmps51
 go_wp2
 go_loopg [5] 0 (fun gh s5 wr=>wr=w∧s5 = .int .i64 (k:Nat))
 case atStart=>exact ⟨rfl,rfl⟩
 case round=>
  obtain ⟨rfl,rfl⟩:=hrel
  go_wp2_with (go_at_call 49;refine (KF.out _ H.out).mono ?_;rintro e w2 ⟨rfl,ht2,hs2⟩;have HT2:=Lib.hid ht2;have HS2:=Lib.hid hs2;clear ht2 hs2)
  all_goals go_ret
  all_goals exact ⟨rfl,HT2.out,HS2.out⟩
theorem nx_asc {c:Nat} (h:c<128) (t:List Nat):nx (c::t)=(c,1):=by
 have e:enc c=[c]:=by unfold enc;rw [if_pos h]
 have:=nx_enc (v:=c) ⟨by omega,by omega⟩ t
 rw [e] at this
 exact this
theorem enc_high {v:Nat} (h:isSign v) (h':128≤v):∀ x∈enc v,128≤x:=by
 have:=h.1
 intro x hx
 unfold enc at hx
 repeat' split at hx
 all_goals (simp at hx;omega)
theorem getD_app1 {A B:List Nat} {i:Nat} (h:i<A.length):(A++B).getD i 0=A.getD i 0:=by
 simp [List.getD,List.getElem?_append_left h]
theorem nx_dec {L:List Nat} (h:L≠[]):nx L=if (decL L).1=65533∧(decL L).2=1 then (0,0) else decL L:=by unfold nx;rw [if_neg h]
theorem nx_loc:∀ {A:List Nat} (Y Z:List Nat),(∃ x∈A,x<128)→nx (A++Y)=nx (A++Z)
 | [],_,_,h=>by obtain ⟨x,hx,_⟩:=h;cases hx
 | [a],Y,Z,h=>by
  obtain ⟨x,hx,h'⟩:=h
  simp at hx;subst hx
  show nx (x::Y)=nx (x::Z)
  rw [nx_asc h',nx_asc h']
 | [a,b],Y,Z,h=>by
  show nx (a::b::Y)=nx (a::b::Z)
  by_cases ha:a<128
  ·rw [nx_asc ha,nx_asc ha]
  have hb:b<128:=by
   obtain ⟨x,hx,h'⟩:=h
   simp at hx;rcases hx with rfl | rfl <;> omega
  have key:∀ Y,nx (a::b::Y)=(0,0):=fun Y=>by
   have:decL (a::b::Y)=(65533,1):=by
    unfold decL Go.Lib.decodeN
    simp only [List.getD_cons_zero,List.getD_cons_succ]
    rw [if_neg ha,if_neg (by omega),if_neg (by omega),if_neg (by omega)]
   unfold nx
   rw [if_neg (by simp),this,if_pos ⟨rfl,rfl⟩]
  rw [key,key]
 | [a,b,c],Y,Z,h=>by
  show nx (a::b::c::Y)=nx (a::b::c::Z)
  by_cases ha:a<128
  ·rw [nx_asc ha,nx_asc ha]
  have hb:b<128∨c<128:=by
   obtain ⟨x,hx,h'⟩:=h
   simp at hx;rcases hx with rfl | rfl | rfl <;> omega
  have key:∀ Y,decL (a::b::c::Y)=if a/32=6∧b/64=2 then (if a%32*64+b%64≥128 then (a%32*64+b%64,2) else (65533,1)) else (65533,1):=fun Y=>by
   unfold decL Go.Lib.decodeN
   simp only [List.getD_cons_zero,List.getD_cons_succ,List.length_cons]
   rw [if_neg ha]
   by_cases h6:a/32=6∧b/64=2
   ·rw [if_pos ⟨h6.1,by omega,h6.2⟩,if_pos h6]
   ·rw [if_neg (by omega),if_neg (by omega),if_neg (by omega),if_neg h6]
  rw [nx_dec (by simp),nx_dec (by simp),key,key]
 | a::b::c::d::t,Y,Z,h=>by
  show nx (a::b::c::d::(t++Y))=nx (a::b::c::d::(t++Z))
  have key:∀ n m,3<n→3<m→Go.Lib.decodeN n a b c d=Go.Lib.decodeN m a b c d:=fun n m hn hm=>by
   unfold Go.Lib.decodeN
   have e1:(1<n)=(1<m):=by simp;omega
   have e2:(2<n)=(2<m):=by simp;omega
   have e3:(3<n)=(3<m):=by simp;omega
   simp only [e1,e2,e3]
  have:∀ Y Z,decL (a::b::c::d::(t++Y))=decL (a::b::c::d::(t++Z)):=fun Y Z=>by
   unfold decL
   simp only [List.getD_cons_zero,List.getD_cons_succ,List.length_cons]
   exact key _ _ (by omega) (by omega)
  rw [nx_dec (by simp),nx_dec (by simp),this Y Z]
theorem nx_app {A:List Nat} (hb:Bs A) (h:(nx A).2≠0) (B:List Nat):nx (A++B)=nx A:=by
 obtain ⟨h1,h2,h3,h4⟩:=nx_some hb h
 have e:A=enc (nx A).1++A.drop (nx A).2:=by rw [←h3,List.take_append_drop]
 have e2:=nx_enc h1 (A.drop (nx A).2++B)
 rw [←List.append_assoc,←e] at e2
 rw [e2,←h2]
theorem al_k (p:Nat→Bool):∀ (n:Nat) (L:List Nat) (k k':Nat),L.length≤n→al p L k=none→al p L k'=none
 | 0,L,k,k',h,_=>by
  have:L=[]:=List.eq_nil_of_length_eq_zero (by omega)
  subst this;rfl
 | n+1,L,k,k',h,ha=>by
  by_cases h0:L=[]
  ·subst h0;rfl
  rw [al_step p h0] at ha ⊢
  split at ha
  ·cases ha
  ·rename_i hn
   rw [if_neg hn]
   exact al_k p n _ _ _ (by rw [List.length_drop];omega) ha
theorem al_app (p:Nat→Bool):∀ (n:Nat) (A B:List Nat) (k:Nat),A.length≤n→Bs A→al p A k=none→al p (A++B) k=al p B (k+A.length)
 | 0,A,B,k,h,_,_=>by
  have:A=[]:=List.eq_nil_of_length_eq_zero (by omega)
  subst this;rfl
 | n+1,A,B,k,h,hb,ha=>by
  by_cases h0:A=[]
  ·subst h0;rfl
  rw [al_step p h0] at ha
  split at ha
  ·cases ha
  ·rename_i hn
   have hz:(nx A).2≠0:=fun e=>hn (Or.inl e)
   obtain ⟨h1,h2,h3,h4⟩:=nx_some hb hz
   rw [al_step p (by simp [h0]),nx_app hb hz B,if_neg hn,List.drop_append_of_le_length h4,al_app p n _ B _ (by rw [List.length_drop];omega) (hb.drop _) ha,List.length_drop]
   congr 1;omega
theorem al_both (p:Nat→Bool) {A B:List Nat} (hb:Bs A) (ha:al p A 0=none) (hB:al p B 0=none):al p (A++B) 0=none:=by
 rw [al_app p A.length A B 0 (Nat.le_refl _) hb ha];exact al_k p B.length B _ _ (Nat.le_refl _) hB
theorem al_cut (p:Nat→Bool):∀ (n:Nat) (A B:List Nat) (k k':Nat),A.length≤n→Bs (A++B)→(B=[]∨(∃ c t,c<128∧B=c::t)∨(∃ W c,c<128∧A=W++[c])∨A=[])→al p (A++B) k=none→al p A k'=none
 | 0,A,B,k,k',h,_,_,_=>by
  have:A=[]:=List.eq_nil_of_length_eq_zero (by omega)
  subst this;rfl
 | n+1,A,B,k,k',h,hb,hc,ha=>by
  by_cases h0:A=[]
  ·subst h0;rfl
  have hb1:Bs A:=fun x hx=>hb x (by simp [hx])
  rw [al_step p (by simp [h0])] at ha
  split at ha
  ·cases ha
  ·rename_i hn
   have hz:(nx (A++B)).2≠0:=fun e=>hn (Or.inl e)
   obtain ⟨h1,h2,h3,h4⟩:=nx_some hb hz
   have hle:(nx (A++B)).2≤A.length:=by
    by_cases hl:(nx (A++B)).2≤A.length
    ·exact hl
    exfalso
    have hlow:(nx (A++B)).1<128:=by
     by_cases h8:(nx (A++B)).1<128
     ·exact h8
     exfalso
     have hh:=enc_high h1 (by omega)
     rw [←h3] at hh
     rcases hc with rfl | ⟨c,t,hc,rfl⟩ | ⟨W,c,hc,rfl⟩ | e
     ·rw [List.append_nil] at h4 hl;exact hl h4
     ·have:c∈(A++c::t).take (nx (A++c::t)).2:=by
       rw [List.take_append]
       refine List.mem_append_right _ ?_
       obtain ⟨m,hm⟩:∃ m,(nx (A++c::t)).2-A.length=m+1:=⟨(nx (A++c::t)).2-A.length-1,by omega⟩
       rw [hm];simp
      have:=hh c this
      omega
     ·have:c∈(W++[c]++B).take (nx (W++[c]++B)).2:=by
       rw [List.take_append]
       refine List.mem_append_left _ ?_
       rw [List.take_of_length_le (by omega)]
       simp
      have:=hh c this
      omega
     ·exact h0 e
    have:(enc (nx (A++B)).1).length=1:=by unfold enc;rw [if_pos hlow];rfl
    have:=List.length_pos_iff.2 h0
    omega
   have hA:nx (A++B)=nx A:=by
    have e:A=enc (nx (A++B)).1++A.drop (nx (A++B)).2:=by
     rw [←h3,List.take_append_of_le_length hle,List.take_append_drop]
    have e2:=nx_enc h1 (A.drop (nx (A++B)).2)
    rw [←e] at e2
    rw [e2,←h2]
   rw [hA] at hn ha hle hz
   rw [al_step p h0,if_neg hn]
   rw [List.drop_append_of_le_length hle] at ha
   refine al_cut p n (A.drop (nx A).2) B _ _ (by rw [List.length_drop];omega) ?_ ?_ ha
   ·intro x hx
    rcases List.mem_append.1 hx with h | h
    ·exact hb1 x (List.mem_of_mem_drop h)
    ·exact hb x (by simp [h])
   ·rcases hc with e | e | ⟨W,c,hc,rfl⟩ | e
    ·exact Or.inl e
    ·exact Or.inr (Or.inl e)
    ·by_cases hd:(nx (W++[c])).2≤W.length
     ·exact Or.inr (Or.inr (Or.inl ⟨W.drop (nx (W++[c])).2,c,hc,List.drop_append_of_le_length hd⟩))
     ·exact Or.inr (Or.inr (Or.inr (List.drop_eq_nil_of_le (by simp;omega))))
    ·exact absurd e h0
theorem al_asc {p:Nat→Bool}:∀ (A:List Nat) (k:Nat),(∀ x∈A,x<128∧p x=true)→al p A k=none
 | [],_,_=>rfl
 | c::t,k,h=>by
  have hc:=h c (by simp)
  rw [al_step p (by simp),nx_asc hc.1,if_neg (by simp [hc.2])]
  exact al_asc t _ fun x hx=>h x (by simp [hx])
theorem esc1_high {q:Bool} {c:Nat} (h:128≤c):esc1 q c=[c]:=by
 unfold esc1
 repeat (rw [if_neg (by omega)])
theorem esc_high {q:Bool}:∀ {A:List Nat},(∀ x∈A,128≤x)→esc q A=A
 | [],_=>rfl
 | c::t,h=>by rw [esc_cons,esc1_high (h c (by simp)),esc_high fun x hx=>h x (by simp [hx])];rfl
theorem esc1_char {q:Bool} {c:Nat} (h:c<128) (hp:charP c=true):∀ x∈esc1 q c,x<128∧charP x=true:=by
 intro x hx
 unfold esc1 at hx
 repeat' split at hx
 all_goals first
  | (simp at hx;subst hx;exact ⟨h,hp⟩)
  | (simp at hx;rcases hx with rfl | rfl | rfl | rfl | rfl | rfl <;> exact ⟨by decide,by decide +kernel⟩)
  | (simp at hx;rcases hx with rfl | rfl | rfl | rfl | rfl <;> exact ⟨by decide,by decide +kernel⟩)
  | (simp at hx;rcases hx with rfl | rfl | rfl | rfl <;> exact ⟨by decide,by decide +kernel⟩)
theorem esc_al (q:Bool):∀ (n:Nat) (A:List Nat),A.length≤n→Bs A→al charP A 0=none→al charP (esc q A) 0=none
 | 0,A,h,_,_=>by
  have:A=[]:=List.eq_nil_of_length_eq_zero (by omega)
  subst this;rfl
 | n+1,A,h,hb,ha=>by
  by_cases h0:A=[]
  ·subst h0;rfl
  rw [al_step charP h0] at ha
  split at ha
  ·cases ha
  ·rename_i hn
   have hz:(nx A).2≠0:=fun e=>hn (Or.inl e)
   have hp:charP (nx A).1=true:=by
    cases e:charP (nx A).1 with
    | true=>rfl
    | false=>exact absurd (Or.inr e) hn
   obtain ⟨h1,h2,h3,h4⟩:=nx_some hb hz
   have e:A=enc (nx A).1++A.drop (nx A).2:=by rw [←h3,List.take_append_drop]
   have hr:=esc_al q n (A.drop (nx A).2) (by rw [List.length_drop];omega) (hb.drop _) (al_k charP _ _ _ _ (Nat.le_refl _) ha)
   rw [e,esc_app]
   refine al_both charP (esc_bs fun x hx=>hb x ?_) ?_ hr
   ·rw [←h3] at hx;exact List.mem_of_mem_take hx
   ·by_cases h8:(nx A).1<128
    ·have:enc (nx A).1=[(nx A).1]:=by unfold enc;rw [if_pos h8]
     rw [this,esc_cons,esc_nil,List.append_nil]
     exact al_asc _ _ (esc1_char h8 hp)
    ·rw [esc_high (enc_high h1 (by omega))]
     have he:enc (nx A).1≠[]:=fun e=>by have:=enc_pos (nx A).1;rw [e] at this;simp at this
     have hne:=nx_enc h1 []
     rw [List.append_nil] at hne
     rw [al_step charP he,hne,if_neg (by simp [hp];exact he),List.drop_length]
     rfl
theorem lin_app:∀ (a b:List Nat),(∀ x∈a,x≠13)→lin false (a++b)=a++lin false b
 | [],_,_=>rfl
 | x::t,b,h=>by
  have hx:x≠13:=h x (by simp)
  rw [List.cons_append,lin,if_neg (by simp),if_neg hx,decide_eq_false hx,lin_app t b fun y hy=>h y (by simp [hy])]
  rfl
theorem pre_short {s A:List Nat} (h:s.length≤A.length) (Y:List Nat):s <+: A++Y↔s <+: A:=
 ⟨fun h1=>List.prefix_of_prefix_length_le h1 (List.prefix_append A Y) h,fun h1=>h1.trans (List.prefix_append A Y)⟩
theorem pre_loc {s:List Nat} (hs:62∉s.dropLast) (W Y Z:List Nat):s <+: W++62::Y↔s <+: W++62::Z:=by
 have key:∀ Y,s <+: W++62::Y↔s <+: W++[62]:=fun Y=>by
  rw [show W++62::Y=(W++[62])++Y by simp]
  by_cases hl:s.length≤(W++[62]).length
  ·exact pre_short hl Y
  ·constructor
   ·intro h
    exfalso
    have h2:(W++[62]) <+: s:=List.prefix_of_prefix_length_le (List.prefix_append _ Y) h (by omega)
    obtain ⟨t,rfl⟩:=h2
    have ht:t≠[]:=by intro e;subst e;simp at hl
    apply hs
    rw [List.dropLast_append_of_ne_nil ht]
    simp
   ·intro h;have:=h.length_le;omega
 rw [key Y,key Z]
theorem drop_w {W:List Nat} {k:Nat} (h:k≤W.length) (Y:List Nat):(W++62::Y).drop k=W.drop k++62::Y:=List.drop_append_of_le_length h
theorem nx_w (W Y Z:List Nat):nx (W++62::Y)=nx (W++62::Z):=by
 have:=nx_loc (A:=W++[62]) Y Z ⟨62,by simp,by decide⟩
 simpa using this
theorem bs_w {W Y:List Nat} (h:Bs (W++62::Y)) (k:Nat):Bs (W.drop k++62::Y):=fun x hx=>by
 rcases List.mem_append.1 hx with h1 | h1
 ·exact h x (by simp [List.mem_of_mem_drop h1])
 ·exact h x (by simp at h1 ⊢;exact Or.inr h1)
theorem sk_w {p:Nat→Bool} (h0:p 0=false) (h62:p 62=false):∀ (n:Nat) (W Y Z:List Nat),W.length≤n→Bs (W++62::Y)→sk p (W++62::Y)=sk p (W++62::Z)∧sk p (W++62::Y)≤W.length
 | n,W,Y,Z,hn,hb=>by
  by_cases hp:p (nx (W++62::Y)).1=true
  ·have hp':=hp
   rw [nx_w W Y Z] at hp'
   have hz:=(nx_zero h0 hp).1
   obtain ⟨h1,h2,h3,h4⟩:=nx_some hb (by omega)
   have hle:(nx (W++62::Y)).2≤W.length:=by
    by_cases hl:(nx (W++62::Y)).2≤W.length
    ·exact hl
    exfalso
    have hm:62∈(W++62::Y).take (nx (W++62::Y)).2:=by
     rw [List.take_append]
     refine List.mem_append_right _ ?_
     obtain ⟨m,hm⟩:∃ m,(nx (W++62::Y)).2-W.length=m+1:=⟨(nx (W++62::Y)).2-W.length-1,by omega⟩
     rw [hm];simp
    rw [h3] at hm
    by_cases h8:(nx (W++62::Y)).1<128
    ·unfold enc at hm
     rw [if_pos h8] at hm
     simp at hm
     rw [←hm,h62] at hp
     cases hp
    ·have:=enc_high h1 (by omega) _ hm
     omega
   rw [sk_yes h0 hp,sk_yes h0 hp',←nx_w W Y Z,drop_w hle,drop_w hle]
   cases n with
   | zero=>omega
   | succ n=>
    have ih:=sk_w h0 h62 n (W.drop (nx (W++62::Y)).2) Y Z (by rw [List.length_drop];omega) (bs_w hb _)
    rw [List.length_drop] at ih
    exact ⟨by rw [ih.1],by omega⟩
  ·have hp1:p (nx (W++62::Y)).1=false:=by simpa using hp
   have hp2:=hp1
   rw [nx_w W Y Z] at hp2
   rw [sk_no hp1,sk_no hp2]
   exact ⟨rfl,Nat.zero_le _⟩
theorem bla62:blaP 62=false:=by decide +kernel
theorem go62:goP 62=false:=by decide +kernel
theorem skb {W Y:List Nat} (Z:List Nat) (hb:Bs (W++62::Y)):sk blaP (W++62::Y)=sk blaP (W++62::Z):=(sk_w blaP_zero bla62 W.length W Y Z (Nat.le_refl _) hb).1
theorem skb_le {W Y:List Nat} (hb:Bs (W++62::Y)):sk blaP (W++62::Y)≤W.length:=(sk_w blaP_zero bla62 W.length W Y Y (Nat.le_refl _) hb).2
theorem nm_w {W Y:List Nat} (Z:List Nat) (hb:Bs (W++62::Y)):nmP (W++62::Y)=nmP (W++62::Z)∧∀ n,nmP (W++62::Y) = .ok n→n≤W.length:=by
 have h:=sk_w goP_zero go62 W.length W Y Z (Nat.le_refl _) hb
 unfold nmP
 rw [←nx_w W Y Z,h.1]
 refine ⟨rfl,fun n hn=>?_⟩
 split at hn
 ·injection hn with hn;rw [←hn,←h.1];exact h.2
 ·cases hn
theorem not_one {W Y:List Nat} {c k:Nat} (hk:k≤W.length) (hc:c≠62) (h:[c] <+: (W++62::Y).drop k):k+1≤W.length:=by
 rw [drop_w hk] at h
 by_cases e:k=W.length
 ·subst e
  rw [List.drop_length,List.nil_append] at h
  exact absurd (List.cons_prefix_cons.1 h).1 hc
 ·omega
theorem one_w {W:List Nat} {c k:Nat} (Y Z:List Nat) (hk:k≤W.length):[c] <+: (W++62::Y).drop k↔[c] <+: (W++62::Z).drop k:=by
 rw [drop_w hk,drop_w hk];exact pre_loc (by simp) _ _ _
theorem qn_w {W Y:List Nat} (Z:List Nat) (hb:Bs (W++62::Y)):qnP (W++62::Y)=qnP (W++62::Z)∧∀ n,qnP (W++62::Y) = .ok n→n≤W.length:=by
 obtain ⟨h1,h2⟩:=nm_w Z hb
 unfold qnP
 rw [←h1]
 rcases h:nmP (W++62::Y) with e | n
 ·exact ⟨rfl,fun n hn=>by cases hn⟩
 ·have hn:=h2 n h
  simp only
  by_cases hp:[58] <+: (W++62::Y).drop n
  ·have hn1:=not_one hn (by decide) hp
   rw [if_pos hp,if_pos ((one_w Y Z hn).1 hp),drop_w hn1,drop_w hn1]
   obtain ⟨h3,h4⟩:=nm_w (W:=W.drop (n+1)) Z (bs_w hb _)
   rw [←h3]
   rcases h5:nmP (W.drop (n+1)++62::Y) with e | m
   ·exact ⟨rfl,fun n hn=>by cases hn⟩
   ·have:=h4 m h5
    rw [List.length_drop] at this
    exact ⟨rfl,fun k hk=>by injection hk with hk;omega⟩
  ·rw [if_neg hp,if_neg (fun h=>hp ((one_w Y Z hn).2 h))]
   exact ⟨rfl,fun k hk=>by injection hk with hk;omega⟩
theorem ix_app {s A:List Nat} (hs:s≠[]) {Y:List Nat} {i:Nat} (h:ix s (A++Y)=some i) (hi:i+s.length≤A.length) (Z:List Nat):ix s (A++Z)=some i:=by
 have h1:=(ix_some h).2
 have h2:=ix_least h
 refine ix_is hs ?_ fun j hj=>?_
 ·rw [List.drop_append_of_le_length (by omega)] at h1 ⊢
  exact (pre_short (by rw [List.length_drop];omega) _).2 ((pre_short (by rw [List.length_drop];omega) _).1 h1)
 ·have h3:=h2 j hj
  rw [List.drop_append_of_le_length (by omega)] at h3 ⊢
  exact fun h4=>h3 ((pre_short (by rw [List.length_drop];omega) _).2 ((pre_short (by rw [List.length_drop];omega) _).1 h4))
theorem up_app {s A:List Nat} (hs:s≠[]) {Y:List Nat} {i:Nat} (h:upP s (A++Y) = .ok i) (hi:i+s.length≤A.length) (Z:List Nat):upP s (A++Z) = .ok i:=by
 unfold upP at h ⊢
 rcases h1:ix s (A++Y) with _ | j
 ·rw [h1] at h;cases h
 ·rw [h1] at h;injection h with h;subst h
  rw [ix_app hs h1 hi Z]
theorem qu_app {q:Nat} {A Y:List Nat} {v:List Nat} {n:Nat} (h:quP q (A++Y) = .ok (v,n)) (hn:n≤A.length) (Z:List Nat):quP q (A++Z) = .ok (v,n):=by
 unfold quP at h ⊢
 rcases h1:upP [q] (A++Y) with e | i
 ·rw [h1] at h;cases h
 ·rw [h1] at h
  simp only at h
  rcases h2:plP ((A++Y).take i) with e | x
  ·rw [h2] at h;cases h
  ·rw [h2] at h;injection h with h;injection h with h3 h4
   subst h3
   have hi:i+1≤A.length:=by omega
   rw [up_app (by simp) h1 hi Z]
   simp only
   rw [List.take_append_of_le_length (by omega)] at h2 ⊢
   rw [h2,←h4]
theorem vl_w {W Y:List Nat} (Z:List Nat) {v:List Nat} {n:Nat} (hb:Bs (W++62::Y)) (h:vlP (W++62::Y) = .ok (v,n)) (hn:n≤W.length):vlP (W++62::Z) = .ok (v,n):=by
 have e0:=skb Z hb
 have l0:=skb_le hb
 unfold vlP at h ⊢
 rw [←e0]
 generalize hk:sk blaP (W++62::Y)=k at *
 by_cases hp:[61] <+: (W++62::Y).drop k
 ·have k1:=not_one l0 (by decide) hp
  rw [if_pos hp] at h
  rw [if_pos ((one_w Y Z l0).1 hp)]
  rw [drop_w k1] at h ⊢
  have hb1:Bs (W.drop (k+1)++62::Y):=bs_w hb _
  have e1:=skb Z hb1
  have l1:=skb_le hb1
  rw [List.length_drop] at l1
  rw [←e1]
  generalize hB:k+1+sk blaP (W.drop (k+1)++62::Y)=B at *
  have lB:B≤W.length:=by omega
  by_cases h39:[39] <+: (W++62::Y).drop B
  ·have B1:=not_one lB (by decide) h39
   rw [if_pos h39] at h
   rw [if_pos ((one_w Y Z lB).1 h39)]
   rw [drop_w B1] at h ⊢
   rcases h2:quP 39 (W.drop (B+1)++62::Y) with e | ⟨x,m⟩
   ·rw [h2] at h;cases h
   ·rw [h2] at h;injection h with h;injection h with h3 h4
    rw [qu_app h2 (by rw [List.length_drop];omega) (62::Z)]
    simp only
    rw [h3,h4]
  ·rw [if_neg h39] at h
   rw [if_neg (fun e=>h39 ((one_w Y Z lB).2 e))]
   by_cases h34:[34] <+: (W++62::Y).drop B
   ·have B1:=not_one lB (by decide) h34
    rw [if_pos h34] at h
    rw [if_pos ((one_w Y Z lB).1 h34)]
    rw [drop_w B1] at h ⊢
    rcases h2:quP 34 (W.drop (B+1)++62::Y) with e | ⟨x,m⟩
    ·rw [h2] at h;cases h
    ·rw [h2] at h;injection h with h;injection h with h3 h4
     rw [qu_app h2 (by rw [List.length_drop];omega) (62::Z)]
     simp only
     rw [h3,h4]
   ·rw [if_neg h34] at h;cases h
 ·rw [if_neg hp] at h;cases h
theorem on_w {W Y:List Nat} (Z:List Nat) {a:At} {n:Nat} (hb:Bs (W++62::Y)) (h:onP (W++62::Y) = .ok (a,n)) (hn:n≤W.length):onP (W++62::Z) = .ok (a,n):=by
 obtain ⟨h1,h2⟩:=qn_w Z hb
 unfold onP at h ⊢
 rw [←h1]
 rcases hq:qnP (W++62::Y) with e | k
 ·rw [hq] at h;cases h
 ·have hk:=h2 k hq
  rw [hq] at h
  simp only at h ⊢
  rw [drop_w hk] at h ⊢
  rcases hv:vlP (W.drop k++62::Y) with e | ⟨x,m⟩
  ·rw [hv] at h;cases h
  ·rw [hv] at h;injection h with h;injection h with h3 h4
   rw [vl_w Z (bs_w hb _) hv (by rw [List.length_drop];omega)]
   simp only
   rw [List.take_append_of_le_length hk] at h3 ⊢
   rw [h3,h4]
theorem at_w:∀ (n:Nat) (acc:List At) (W Y Z:List Nat) (l:List At) (m:Nat),W.length≤n→Bs (W++62::Y)→Bs (W++62::Z)→atA acc (W++62::Y) = .ok (l,m)→m≤W.length→atA acc (W++62::Z) = .ok (l,m)
 | n,acc,W,Y,Z,l,m,hn,hb,hbz,h,hm=>by
  rw [atA_step acc hb] at h
  rw [atA_step acc hbz]
  have e0:=skb Z hb
  have l0:=skb_le hb
  rw [←e0]
  generalize hk:sk blaP (W++62::Y)=k at *
  by_cases k0:k=0
  ·rw [if_pos k0] at h ⊢;exact h
  rw [if_neg k0] at h ⊢
  rw [drop_w l0] at h ⊢
  rw [←nx_w (W.drop k) Y Z]
  by_cases hp:begP (nx (W.drop k++62::Y)).1=true
  ·rw [if_pos hp] at h ⊢
   rcases ho:onP (W.drop k++62::Y) with e | ⟨a,j⟩
   ·rw [ho] at h;cases h
   ·rw [ho] at h
    simp only at h
    split at h
    ·cases h
    rename_i hx1
    split at h
    ·cases h
    rename_i hx2
    rcases hr:atA (acc++[a]) ((W++62::Y).drop (k+j)) with e | ⟨l2,m2⟩
    ·rw [hr] at h;cases h
    ·rw [hr] at h;injection h with h;injection h with h3 h4
     have hj:k+j≤W.length:=by omega
     rw [on_w Z (bs_w hb _) ho (by rw [List.length_drop];omega)]
     simp only
     rw [if_neg hx1,if_neg hx2,drop_w hj]
     rw [drop_w hj] at hr
     have hjp:=onP_ok (bs_w hb _) ho
     cases n with
     | zero=>omega
     | succ n=>
      rw [at_w n (acc++[a]) (W.drop (k+j)) Y Z l2 m2 (by rw [List.length_drop];omega) (bs_w hb _) (bs_w hbz _) hr (by rw [List.length_drop];omega)]
      simp only
      rw [h3,h4]
  ·rw [if_neg hp] at h ⊢;exact h
theorem atP_w {W Y Z:List Nat} {l:List At} {m:Nat} (hb:Bs (W++62::Y)) (hbz:Bs (W++62::Z)) (h:atP (W++62::Y) = .ok (l,m)) (hm:m≤W.length):atP (W++62::Z) = .ok (l,m):=
 at_w W.length [] W Y Z l m (Nat.le_refl _) hb hbz h hm
theorem pre_end {s W Y:List Nat} {k:Nat} (hs:62∉s.dropLast) (hk:k≤W.length) (Z:List Nat) (h:s <+: (W++62::Y).drop k):s <+: (W++62::Z).drop k:=by
 rw [drop_w hk] at h ⊢;exact (pre_loc hs _ _ _).1 h
theorem take_w {W Y Z:List Nat} {k:Nat} (hk:k≤W.length):(W++62::Y).take k=(W++62::Z).take k:=by
 rw [List.take_append_of_le_length hk,List.take_append_of_le_length hk]
theorem dc_w {W Y Z:List Nat} {t:Tk} (hb:Bs (W++62::Y)) (hbz:Bs (W++62::Z)) (h:dcP (W++62::Y) = .ok (t,W.length+1)):dcP (W++62::Z) = .ok (t,W.length+1):=by
 unfold dcP at h ⊢
 rcases h1:atP (W++62::Y) with e | ⟨l,n⟩
 ·rw [h1] at h;cases h
 ·rw [h1] at h
  simp only at h
  split at h
  ·rename_i hp
   rcases h2:mdP l with _ | e
   ·rw [h2] at h;injection h with h;injection h with h3 h4
    rw [atP_w hb hbz h1 (by omega)]
    simp only
    rw [if_pos (pre_end (by decide) (by omega) Z hp),h2]
    simp only
    rw [h3,h4]
   ·rw [h2] at h;cases h
  ·cases h
theorem pi_w {W Y Z:List Nat} {t:Tk} (hb:Bs (W++62::Y)) (h:piP (W++62::Y) = .ok (t,W.length+1)):piP (W++62::Z) = .ok (t,W.length+1):=by
 obtain ⟨hn1,hn2⟩:=nm_w Z hb
 unfold piP at h ⊢
 rw [←hn1]
 rcases h1:nmP (W++62::Y) with e | n
 ·rw [h1] at h;cases h
 ·have hn:=hn2 n h1
  rw [h1] at h
  simp only at h ⊢
  rw [take_w (Y:=Y) (Z:=Z) hn] at h
  split at h
  ·cases h
  rename_i hx
  rw [if_neg hx]
  have e0:=skb Z (bs_w hb n)
  have l0:=skb_le (bs_w hb n)
  rw [List.length_drop] at l0
  rw [drop_w hn] at h ⊢
  rw [←e0]
  generalize hk:sk blaP (W.drop n++62::Y)=k at *
  have hnk:n+k≤W.length:=by omega
  split at h
  ·cases h
  rename_i hy
  rw [if_neg (fun e=>hy ⟨e.1,fun e1=>e.2 ((pre_loc (by decide) _ _ _).1 e1)⟩)]
  rw [drop_w hnk] at h ⊢
  rcases h2:upP [63,62] (W.drop (n+k)++62::Y) with e | i
  ·rw [h2] at h;cases h
  ·rw [h2] at h;injection h with h;injection h with h3 h4
   have hl:i+2≤(W.drop (n+k)++[62]).length:=by
    rw [List.length_append,List.length_drop];simp;omega
   have h5:=up_app (A:=W.drop (n+k)++[62]) (s:=[63,62]) (by simp) (Y:=Y) (i:=i) (by simpa using h2) hl Z
   rw [show W.drop (n+k)++[62]++Z=W.drop (n+k)++62::Z by simp] at h5
   rw [h5]
   simp only
   rw [take_w (W:=W.drop (n+k)) (Y:=Z) (Z:=Y) (by rw [List.length_drop];omega),h3,h4]
theorem rm_w {W Y Z:List Nat} {t:Tk} (h:rmP (W++62::Y) = .ok (t,W.length+1)):rmP (W++62::Z) = .ok (t,W.length+1):=by
 unfold rmP at h ⊢
 rcases h1:upP [45,45] (W++62::Y) with e | i
 ·rw [h1] at h;cases h
 ·rw [h1] at h
  simp only at h
  split at h
  ·rename_i hp
   injection h with h;injection h with h3 h4
   rw [up_app (by simp) h1 (by simp;omega) (62::Z)]
   simp only
   rw [if_pos (pre_end (by simp) (by omega) Z hp),take_w (Y:=Z) (Z:=Y) (by omega),h3,h4]
  ·cases h
theorem rw_w {W Y Z:List Nat} {t:Tk} (h:rwP (W++62::Y) = .ok (t,W.length+1)):rwP (W++62::Z) = .ok (t,W.length+1):=by
 unfold rwP at h ⊢
 rcases h1:upP [93,93,62] (W++62::Y) with e | i
 ·rw [h1] at h;cases h
 ·rw [h1] at h;injection h with h;injection h with h3 h4
  have h5:=up_app (A:=W++[62]) (s:=[93,93,62]) (by simp) (Y:=Y) (i:=i) (by simpa using h1) (by simp;omega) Z
  rw [show W++[62]++Z=W++62::Z by simp] at h5
  rw [h5]
  simp only
  rw [take_w (Y:=Z) (Z:=Y) (by omega),h3,h4]
theorem en_w {W Y Z:List Nat} {t:Tk} (hb:Bs (W++62::Y)) (h:enP (W++62::Y) = .ok (t,W.length+1)):enP (W++62::Z) = .ok (t,W.length+1):=by
 obtain ⟨hn1,hn2⟩:=qn_w Z hb
 unfold enP at h ⊢
 rw [←hn1]
 rcases h1:qnP (W++62::Y) with e | n
 ·rw [h1] at h;cases h
 ·have hn:=hn2 n h1
  rw [h1] at h
  simp only at h ⊢
  have e0:=skb Z (bs_w hb n)
  have l0:=skb_le (bs_w hb n)
  rw [List.length_drop] at l0
  rw [drop_w hn] at h ⊢
  rw [←e0]
  generalize hk:sk blaP (W.drop n++62::Y)=k at *
  split at h
  ·rename_i hp
   injection h with h;injection h with h3 h4
   rw [if_pos (pre_end (by simp) (by omega) Z hp),take_w (Y:=Z) (Z:=Y) hn,h3,h4]
  ·cases h
theorem bg_w {W Y Z:List Nat} {t:Tk} (hb:Bs (W++62::Y)) (hbz:Bs (W++62::Z)) (h:bgP (W++62::Y) = .ok (t,W.length+1)):bgP (W++62::Z) = .ok (t,W.length+1):=by
 obtain ⟨hn1,hn2⟩:=qn_w Z hb
 unfold bgP at h ⊢
 rw [←hn1]
 rcases h1:qnP (W++62::Y) with e | n
 ·rw [h1] at h;cases h
 ·have hn:=hn2 n h1
  rw [h1] at h
  simp only at h ⊢
  rw [drop_w hn] at h ⊢
  rcases h2:atP (W.drop n++62::Y) with e | ⟨l,m⟩
  ·rw [h2] at h;cases h
  ·rw [h2] at h
   simp only at h
   have hnm:n+m≤W.length:=by
    split at h
    ·split at h
     ·injection h with h;injection h with h3 h4;omega
     ·cases h
    ·split at h
     ·injection h with h;injection h with h3 h4;omega
     ·cases h
   rw [atP_w (bs_w hb _) (bs_w hbz _) h2 (by rw [List.length_drop];omega)]
   simp only
   split at h
   ·rename_i hp
    split at h
    ·rename_i hq
     injection h with h;injection h with h3 h4
     rw [if_pos (pre_end (by simp) hnm Z hp),if_pos (pre_end (by simp) (by omega) Z hq),take_w (Y:=Z) (Z:=Y) hn,h3,h4]
    ·cases h
   ·rename_i hp
    split at h
    ·rename_i hq
     injection h with h;injection h with h3 h4
     rw [if_neg (fun e=>hp (pre_end (by simp) hnm Y e)),if_pos (pre_end (by simp) hnm Z hq),take_w (Y:=Z) (Z:=Y) hn,h3,h4]
    ·cases h
theorem len_of {s W Y:List Nat} (hs:62∉s) (h:s <+: W++62::Y):s.length≤W.length:=by
 by_cases hl:s.length≤W.length
 ·exact hl
 exfalso
 have h2:(W++[62]) <+: s:=List.prefix_of_prefix_length_le (by rw [show W++62::Y=(W++[62])++Y by simp];exact List.prefix_append _ Y) h (by simp;omega)
 obtain ⟨t,rfl⟩:=h2
 exact hs (by simp)
theorem plus_w {k:Nat} {r r':Except Nat (Tk × Nat)} {t:Tk} {n:Nat} (hk:k≤n) (h:plus k r = .ok (t,n+1)) (hr:r = .ok (t,n-k+1)→r' = .ok (t,n-k+1)):plus k r' = .ok (t,n+1):=by
 obtain ⟨j,h1,h2⟩:=plus_ok h
 have:j=n-k+1:=by omega
 subst this
 rw [hr h1]
 show Except.ok (t,k+(n-k+1))=_
 rw [show k+(n-k+1)=n+1 by omega]
theorem tk_w {first:Bool} {W Y Z:List Nat} {t:Tk} (hb:Bs (W++62::Y)) (hbz:Bs (W++62::Z)) (h60:[60] <+: W++62::Y) (h:tkP first (W++62::Y) = .ok (t,W.length+1)):tkP first (W++62::Z) = .ok (t,W.length+1):=by
 have hd:isDc first (W++62::Y)↔isDc first (W++62::Z):=by
  have key:∀ Y Z,isDc first (W++62::Y)→isDc first (W++62::Z):=fun Y Z ⟨h1,h2,h3⟩=>by
   have hl:=len_of (by decide) h2
   simp at hl
   refine ⟨h1,(pre_loc (by decide) W Y Z).1 h2,?_⟩
   rw [drop_w hl] at h3 ⊢
   rw [←nx_w (W.drop 5) Y Z];exact h3
  exact ⟨key Y Z,key Z Y⟩
 have hl:∀ k,(W.drop k).length+1=W.length-k+1:=fun k=>by rw [List.length_drop]
 unfold tkP at h ⊢
 by_cases c0:isDc first (W++62::Y)
 ·have c:=len_of (by decide) c0.2.1
  simp at c
  rw [if_pos c0,drop_w c] at h
  rw [if_pos (hd.1 c0),drop_w c]
  refine plus_w c h fun h=>?_
  rw [←hl] at h ⊢
  exact dc_w (bs_w hb _) (bs_w hbz _) h
 rw [if_neg c0] at h
 rw [if_neg (fun e=>c0 (hd.2 e))]
 by_cases c1:[60,63] <+: W++62::Y
 ·have c:=len_of (by decide) c1
  simp at c
  rw [if_pos c1,drop_w c] at h
  rw [if_pos ((pre_loc (by decide) W Y Z).1 c1),drop_w c]
  refine plus_w c h fun h=>?_
  rw [←hl] at h ⊢
  exact pi_w (bs_w hb _) h
 rw [if_neg c1] at h
 rw [if_neg (fun e=>c1 ((pre_loc (by decide) W Y Z).2 e))]
 by_cases c2:[60,33,45,45] <+: W++62::Y
 ·have c:=len_of (by decide) c2
  simp at c
  rw [if_pos c2,drop_w c] at h
  rw [if_pos ((pre_loc (by decide) W Y Z).1 c2),drop_w c]
  refine plus_w c h fun h=>?_
  rw [←hl] at h ⊢
  exact rm_w h
 rw [if_neg c2] at h
 rw [if_neg (fun e=>c2 ((pre_loc (by decide) W Y Z).2 e))]
 by_cases c3:[60,33,91,67,68,65,84,65,91] <+: W++62::Y
 ·have c:=len_of (by decide) c3
  simp at c
  rw [if_pos c3,drop_w c] at h
  rw [if_pos ((pre_loc (by decide) W Y Z).1 c3),drop_w c]
  refine plus_w c h fun h=>?_
  rw [←hl] at h ⊢
  exact rw_w h
 rw [if_neg c3] at h
 rw [if_neg (fun e=>c3 ((pre_loc (by decide) W Y Z).2 e))]
 by_cases c4:[60,33] <+: W++62::Y
 ·rw [if_pos c4] at h;cases h
 rw [if_neg c4] at h
 rw [if_neg (fun e=>c4 ((pre_loc (by decide) W Y Z).2 e))]
 by_cases c5:[60,47] <+: W++62::Y
 ·have c:=len_of (by decide) c5
  simp at c
  rw [if_pos c5,drop_w c] at h
  rw [if_pos ((pre_loc (by decide) W Y Z).1 c5),drop_w c]
  refine plus_w c h fun h=>?_
  rw [←hl] at h ⊢
  exact en_w (bs_w hb _) h
 rw [if_neg c5] at h
 rw [if_neg (fun e=>c5 ((pre_loc (by decide) W Y Z).2 e))]
 have c:=len_of (by decide) h60
 simp at c
 rw [if_pos h60,drop_w c] at h
 rw [if_pos ((pre_loc (by decide) W Y Z).1 h60),drop_w c]
 refine plus_w c h fun h=>?_
 rw [←hl] at h ⊢
 exact bg_w (bs_w hb _) (bs_w hbz _) h
def Ends (L:List Nat) (n:Nat):Prop:=∃ W,L.take n=W++[62]
theorem Ends.plus {L:List Nat} {k m:Nat} (h:Ends (L.drop k) m):Ends L (k+m):=by
 obtain ⟨W,hW⟩:=h
 refine ⟨L.take k++W,?_⟩
 rw [List.append_assoc,←hW,List.take_add]
theorem Ends.pre {s L:List Nat} {k:Nat} (h:(s++[62]) <+: L.drop k):Ends L (k+(s.length+1)):=by
 have hl:=h.length_le
 rw [List.length_drop,List.length_append,List.length_singleton] at hl
 obtain ⟨t,ht⟩:=h
 refine Ends.plus (k:=k) ⟨s,?_⟩
 rw [←ht,List.take_append_of_le_length (by simp),List.take_of_length_le (by simp)]
theorem up_pre {s L:List Nat} {i:Nat} (h:upP s L = .ok i):s <+: L.drop i:=by
 unfold upP at h
 rcases h1:ix s L with _ | j
 ·rw [h1] at h;cases h
 ·rw [h1] at h;injection h with h;subst h;exact (ix_some h1).2
theorem wd_k {L:List Nat} {t:Tk} {n:Nat} (h:wdP L = .ok (t,n)):t.k=4∧n=wdN L:=by
 unfold wdP at h
 split at h
 ·cases h
 rcases h2:told (L.take (wdN L)) with _ | v
 ·rw [h2] at h;cases h
 ·rw [h2] at h;injection h with h;injection h with h3 h4
  exact ⟨by rw [←h3],h4.symm⟩
theorem tk_end {first:Bool} {L:List Nat} {t:Tk} {m:Nat} (h60:[60] <+: L) (h:tkP first L = .ok (t,m)):Ends L m:=by
 unfold tkP at h
 split at h
 ·obtain ⟨k,h1,rfl⟩:=plus_ok h
  refine Ends.plus ?_
  unfold dcP at h1
  rcases h2:atP (L.drop 5) with e | ⟨l,n⟩
  ·rw [h2] at h1;cases h1
  ·rw [h2] at h1
   simp only at h1
   split at h1
   ·rename_i hp
    rcases h4:mdP l with _ | e
    ·rw [h4] at h1;injection h1 with h1;injection h1 with _ h6
     subst h6
     exact Ends.pre (s:=[63]) hp
    ·rw [h4] at h1;cases h1
   ·cases h1
 split at h
 ·obtain ⟨k,h1,rfl⟩:=plus_ok h
  refine Ends.plus ?_
  unfold piP at h1
  rcases h2:nmP (L.drop 2) with e | n
  ·rw [h2] at h1;cases h1
  ·rw [h2] at h1
   simp only at h1
   split at h1
   ·cases h1
   split at h1
   ·cases h1
   generalize sk blaP ((L.drop 2).drop n)=s at h1
   rcases h3:upP [63,62] ((L.drop 2).drop (n+s)) with e | i
   ·rw [h3] at h1;cases h1
   ·rw [h3] at h1;injection h1 with h1;injection h1 with _ h6
    subst h6
    have:=up_pre h3
    rw [List.drop_drop] at this
    exact Ends.pre (s:=[63]) this
 split at h
 ·obtain ⟨k,h1,rfl⟩:=plus_ok h
  refine Ends.plus ?_
  unfold rmP at h1
  rcases h2:upP [45,45] (L.drop 4) with e | i
  ·rw [h2] at h1;cases h1
  ·rw [h2] at h1
   simp only at h1
   split at h1
   ·rename_i hq
    injection h1 with h1;injection h1 with _ h6
    subst h6
    exact Ends.pre (s:=[]) hq
   ·cases h1
 split at h
 ·obtain ⟨k,h1,rfl⟩:=plus_ok h
  refine Ends.plus ?_
  unfold rwP at h1
  rcases h2:upP [93,93,62] (L.drop 9) with e | i
  ·rw [h2] at h1;cases h1
  ·rw [h2] at h1;injection h1 with h1;injection h1 with _ h6
   subst h6
   exact Ends.pre (s:=[93,93]) (up_pre h2)
 split at h
 ·cases h
 split at h
 ·obtain ⟨k,h1,rfl⟩:=plus_ok h
  refine Ends.plus ?_
  unfold enP at h1
  rcases h2:qnP (L.drop 2) with e | n
  ·rw [h2] at h1;cases h1
  ·rw [h2] at h1
   simp only at h1
   generalize sk blaP ((L.drop 2).drop n)=s at h1
   split at h1
   ·rename_i hq
    injection h1 with h1;injection h1 with _ h6
    subst h6
    exact Ends.pre (s:=[]) hq
   ·cases h1
 ·obtain ⟨k,h1,rfl⟩:=plus_ok h
  refine Ends.plus ?_
  unfold bgP at h1
  rcases h2:qnP (L.drop 1) with e | n
  ·rw [h2] at h1;cases h1
  ·rw [h2] at h1
   simp only at h1
   rcases h3:atP ((L.drop 1).drop n) with e | ⟨l,s⟩
   ·rw [h3] at h1;cases h1
   ·rw [h3] at h1
    simp only at h1
    split at h1
    ·split at h1
     ·rename_i hq
      injection h1 with h1;injection h1 with _ h6
      subst h6
      exact Ends.pre (s:=[]) hq
     ·cases h1
    ·split at h1
     ·rename_i hq
      injection h1 with h1;injection h1 with _ h6
      subst h6
      exact Ends.pre (s:=[]) hq
     ·cases h1
theorem tk_text {first:Bool} {L:List Nat} (h:¬[60] <+: L):tkP first L=wdP L:=by
 have key:∀ s,¬(60::s) <+: L:=fun s hs=>h (List.IsPrefix.trans (by simp [List.cons_prefix_cons]) hs)
 unfold tkP
 rw [if_neg (fun e=>key _ e.2.1),if_neg (key _),if_neg (key _),if_neg (key _),if_neg (key _),if_neg (key _),if_neg h]
theorem take_wd {L:List Nat}:60∉L.take (wdN L):=by
 unfold wdN
 rcases hi:ix [60] L with _ | i
 ·simp only;rw [List.take_length];exact ix1_none.1 hi
 ·exact (ix1_some hi).2.1
theorem wd_app {A Z:List Nat} (h:60∉A) (hZ:Z=[]∨[60] <+: Z):wdN (A++Z)=A.length:=by
 unfold wdN
 rcases hZ with rfl | hZ
 ·rw [List.append_nil,ix1_none.2 h]
 ·obtain ⟨t,rfl⟩:=pre1.1 hZ
  rw [ix1_app h]
theorem tk_move {first:Bool} {L Z:List Nat} {t:Tk} {n:Nat} (hb:Bs L) (hbz:Bs Z) (hne:L≠[]) (h:tkP first L = .ok (t,n)) (hZ:[60] <+: L∨Z=[]∨[60] <+: Z):tkP first (L.take n++Z) = .ok (t,n):=by
 have hn:=tkP_ok hb hne h
 by_cases h60:[60] <+: L
 ·obtain ⟨W,hW⟩:=tk_end h60 h
  have hlen:n=W.length+1:=by
   have:=congrArg List.length hW
   rw [List.length_take,List.length_append,List.length_singleton] at this
   omega
  have e:L=W++62::L.drop n:=by
   have:=List.take_append_drop n L
   rw [hW] at this
   simpa using this.symm
  rw [hW,show W++[62]++Z=W++62::Z by simp]
  rw [hlen] at h ⊢
  rw [e] at h h60
  rw [hlen] at h h60
  refine tk_w (Y:=L.drop (W.length+1)) ?_ ?_ h60 h
  ·rw [←hlen,←e];exact hb
  ·intro x hx
   rcases List.mem_append.1 hx with h1 | h1
   ·have:x∈L.take n:=by rw [hW];simp [h1]
    exact hb x (List.mem_of_mem_take this)
   ·rcases List.mem_cons.1 h1 with rfl | h2
    ·decide
    ·exact hbz x h2
 ·have hZ:Z=[]∨[60] <+: Z:=by
   rcases hZ with e | e
   ·exact absurd e h60
   ·exact e
  rw [tk_text h60] at h
  obtain ⟨_,hwd⟩:=wd_k h
  subst hwd
  have hA:=take_wd (L:=L)
  have hlA:(L.take (wdN L)).length=wdN L:=by rw [List.length_take];omega
  have h61:¬[60] <+: L.take (wdN L)++Z:=by
   intro e
   rw [pre_short (by rw [hlA];simp;omega)] at e
   obtain ⟨t,ht⟩:=e
   exact hA (by rw [←ht];simp)
  rw [tk_text h61]
  have e2:wdN (L.take (wdN L)++Z)=wdN L:=by rw [wd_app hA hZ,hlA]
  have e3:(L.take (wdN L)++Z).take (wdN L)=L.take (wdN L):=List.take_left' hlA
  unfold wdP at h ⊢
  rw [e2,e3]
  exact h
theorem tk_first {L:List Nat} {t:Tk} {n:Nat} (h:tkP true L = .ok (t,n)) (hk:t.k≠1):tkP false L = .ok (t,n):=by
 have hd:¬isDc true L:=fun hd=>by
  unfold tkP at h
  rw [if_pos hd] at h
  obtain ⟨k,h1,rfl⟩:=plus_ok h
  unfold dcP at h1
  rcases h2:atP (L.drop 5) with e | ⟨l,n⟩
  ·rw [h2] at h1;cases h1
  ·rw [h2] at h1
   simp only at h1
   split at h1
   ·rcases h4:mdP l with _ | e
    ·rw [h4] at h1;injection h1 with h1;injection h1 with h5 h6
     rw [←h5] at hk;exact hk rfl
    ·rw [h4] at h1;cases h1
   ·cases h1
 have hf:¬isDc false L:=fun hd=>by cases hd.1
 unfold tkP at h ⊢
 rw [if_neg hd] at h
 rw [if_neg hf]
 exact h
abbrev Tks0:=List (Tk × Nat)
theorem ts_cons {k:Nat} {L:List Nat} {l:Tks0} (hb:Bs L) (hne:L≠[]) (h:tsA k L = .ok l):∃ t n r,tkP (k == 0) L = .ok (t,n)∧tsA (k+n) (L.drop n) = .ok r∧l=(t,k)::r∧0<n∧n≤L.length:=by
 rw [tsA_step k hb hne] at h
 rcases h1:tkP (k == 0) L with e | ⟨t,n⟩
 ·rw [h1] at h;cases h
 ·rw [h1] at h
  simp only at h
  rcases h2:tsA (k+n) (L.drop n) with e | r
  ·rw [h2] at h;cases h
  ·rw [h2] at h;injection h with h
   have:=tkP_ok hb hne h1
   exact ⟨t,n,r,rfl,h2,h.symm,this.1,this.2⟩
theorem ts_nil {k:Nat} {l:Tks0} (h:tsA k [] = .ok l):l=[]:=by
 rw [tsA_nil] at h;injection h with h;exact h.symm
theorem text_then {first:Bool} {L:List Nat} {t:Tk} {n:Nat} (h60:¬[60] <+: L) (h:tkP first L = .ok (t,n)):L.drop n=[]∨[60] <+: L.drop n:=by
 rw [tk_text h60] at h
 rw [(wd_k h).2]
 unfold wdN
 rcases hi:ix [60] L with _ | i
 ·left;simp
 ·right;exact (ix_some hi).2
theorem pre_take {s L:List Nat} {m:Nat} (h:s <+: L) (hm:s.length≤m):s <+: L.take m:=by
 have:=List.prefix_take_iff.2 (⟨h,hm⟩:s <+: L∧s.length≤m)
 exact this
theorem ts_places:∀ (f k:Nat) (L:List Nat) (l:Tks0),L.length≤f→Bs L→tsA k L = .ok l→(l=[]↔L=[])∧(∀ i,i<l.length→k≤(l.getD i (⟨0,[],[],[],false⟩,0)).2∧(l.getD i (⟨0,[],[],[],false⟩,0)).2<k+L.length)∧(∀ i,i<l.length→i=0→(l.getD i (⟨0,[],[],[],false⟩,0)).2=k)∧
  (∀ i,0<i→i<l.length→(l.getD (i-1) (⟨0,[],[],[],false⟩,0)).2<(l.getD i (⟨0,[],[],[],false⟩,0)).2)∧
  (∀ i,i<l.length→(tsA k (L.take ((l.getD i (⟨0,[],[],[],false⟩,0)).2-k)) = .ok (l.take i))∧((l.getD i (⟨0,[],[],[],false⟩,0)).2=k∨(∃ W,L.take ((l.getD i (⟨0,[],[],[],false⟩,0)).2-k)=W++[62])∨[60] <+: L.drop ((l.getD i (⟨0,[],[],[],false⟩,0)).2-k)))
 | f,k,L,l,hf,hb,h=>by
  by_cases hne:L=[]
  ·subst hne
   rw [ts_nil h]
   exact ⟨by simp,fun i hi=>by simp at hi,fun i hi=>by simp at hi,fun i _ hi=>by simp at hi,fun i hi=>by simp at hi⟩
  obtain ⟨t,n,r,h1,h2,rfl,n0,nl⟩:=ts_cons hb hne h
  cases f with
  | zero=>exact absurd (List.eq_nil_of_length_eq_zero (by omega)) hne
  | succ f=>
   obtain ⟨i1,i2,i3,i4,i5⟩:=ts_places f (k+n) (L.drop n) r (by rw [List.length_drop];omega) (hb.drop _) h2
   rw [List.length_drop] at i2
   refine ⟨by simp [hne],fun i hi=>?_,fun i hi e=>by subst e;rfl,fun i h0 hi=>?_,fun i hi=>?_⟩
   ·cases i with
    | zero=>simp only [List.getD_cons_zero];omega
    | succ i=>
     have:=i2 i (by simpa using hi)
     simp only [List.getD_cons_succ];omega
   ·cases i with
    | zero=>omega
    | succ i=>
     simp only [List.getD_cons_succ,Nat.add_sub_cancel]
     cases i with
     | zero=>
      have:=i3 0 (by simpa using hi) rfl
      simp only [List.getD_cons_zero];omega
     | succ i=>
      have:=i4 (i+1) (by omega) (by simpa using hi)
      simp only [List.getD_cons_succ];simpa using this
   ·cases i with
    | zero=>
     exact ⟨by simp only [List.getD_cons_zero,Nat.sub_self,List.take_zero];rfl,Or.inl rfl⟩
    | succ i=>
     have hi':i<r.length:=by simpa using hi
     have hp:=i2 i hi'
     obtain ⟨j1,j2⟩:=i5 i hi'
     simp only [List.getD_cons_succ]
     generalize hq:(r.getD i (⟨0,[],[],[],false⟩,0)).2=q at *
     have eT:L.take (q-k)=L.take n++(L.drop n).take (q-(k+n)):=by
      rw [show q-k=n+(q-(k+n)) by omega,List.take_add]
     have hZ:[60] <+: L∨(L.drop n).take (q-(k+n))=[]∨[60] <+: (L.drop n).take (q-(k+n)):=by
      by_cases h60:[60] <+: L
      ·exact Or.inl h60
      ·rcases text_then h60 h1 with e | e
       ·right;left;rw [e];simp
       ·by_cases e0:q-(k+n)=0
        ·right;left;rw [e0];rfl
        ·right;right;exact pre_take e (by simp;omega)
     have hm:=tk_move hb (Z:=(L.drop n).take (q-(k+n))) (fun x hx=>hb x (List.mem_of_mem_drop (List.mem_of_mem_take hx))) hne h1 hZ
     refine ⟨?_,?_⟩
     ·rw [eT]
      have hbT:Bs (L.take n++(L.drop n).take (q-(k+n))):=by rw [←eT];exact hb.take _
      have hneT:L.take n++(L.drop n).take (q-(k+n))≠[]:=fun e=>by
       have:=congrArg List.length (List.append_eq_nil_iff.1 e).1
       rw [List.length_take,List.length_nil] at this;omega
      have hlT:(L.take n).length=n:=by rw [List.length_take];omega
      rw [tsA_step k hbT hneT,hm]
      simp only
      rw [List.drop_left' hlT,j1]
      rfl
     ·right
      rcases j2 with e | ⟨W,e⟩ | e
      ·by_cases h60:[60] <+: L
       ·left
        have:q-k=n:=by omega
        rw [this]
        exact tk_end h60 h1
       ·right
        have:q-k=n:=by omega
        rw [this]
        rcases text_then h60 h1 with e1 | e1
        ·exfalso
         rw [e1] at h2
         rw [ts_nil h2] at hi'
         simp at hi'
        ·exact e1
      ·left
       exact ⟨L.take n++W,by rw [eT,e,List.append_assoc]⟩
      ·right
       rw [List.drop_drop,show n+(q-(k+n))=q-k by omega] at e
       exact e
def sh (d:Nat) (l:Tks0):Tks0:=l.map fun x=>(x.1,x.2+d)
theorem ts_shift:∀ (f k d:Nat) (L:List Nat) (l:Tks0),L.length≤f→Bs L→tsA k L = .ok l→(k=0→∀ x∈l.head?,x.1.k≠1)→0<d→tsA (k+d) L = .ok (sh d l)
 | f,k,d,L,l,hf,hb,h,hk,hd=>by
  by_cases hne:L=[]
  ·subst hne;rw [ts_nil h];rfl
  obtain ⟨t,n,r,h1,h2,rfl,n0,nl⟩:=ts_cons hb hne h
  cases f with
  | zero=>exact absurd (List.eq_nil_of_length_eq_zero (by omega)) hne
  | succ f=>
   have ih:=ts_shift f (k+n) d (L.drop n) r (by rw [List.length_drop];omega) (hb.drop _) h2 (fun e=>by omega) hd
   have h3:tkP (k+d == 0) L = .ok (t,n):=by
    have e:(k+d == 0)=false:=by rw [beq_eq_false_iff_ne];omega
    rw [e]
    by_cases k0:k=0
    ·subst k0
     exact tk_first h1 (hk rfl (t,0) (by simp))
    ·have e2:(k == 0)=false:=by rw [beq_eq_false_iff_ne];exact k0
     rw [e2] at h1;exact h1
   rw [tsA_step (k+d) hb hne,h3]
   simp only
   rw [show k+d+n=k+n+d by omega,ih]
   rfl
theorem ts_app:∀ (f k:Nat) (A B:List Nat) (x y:Tks0),A.length≤f→Bs A→Bs B→tsA k A = .ok x→(∀ z∈x.getLast?,z.1.k≠4)→tsA (k+A.length) B = .ok y→tsA k (A++B) = .ok (x++y)
 | f,k,A,B,x,y,hf,ha,hb,h,hl,hy=>by
  by_cases hne:A=[]
  ·subst hne;rw [ts_nil h];exact hy
  obtain ⟨t,n,r,h1,h2,rfl,n0,nl⟩:=ts_cons ha hne h
  cases f with
  | zero=>exact absurd (List.eq_nil_of_length_eq_zero (by omega)) hne
  | succ f=>
   have hr:r=[]↔A.drop n=[]:=(ts_places f (k+n) (A.drop n) r (by rw [List.length_drop];omega) (ha.drop _) h2).1
   have hbAB:Bs (A++B):=fun z hz=>(List.mem_append.1 hz).elim (ha z) (hb z)
   have hbr:Bs (A.drop n++B):=fun z hz=>(List.mem_append.1 hz).elim (fun e=>ha z (List.mem_of_mem_drop e)) (hb z)
   have hZ:[60] <+: A∨A.drop n++B=[]∨[60] <+: A.drop n++B:=by
    by_cases h60:[60] <+: A
    ·exact Or.inl h60
    ·right;right
     rcases text_then h60 h1 with e | e
     ·exfalso
      rw [tk_text h60] at h1
      have hr0:=hr.2 e
      subst hr0
      exact hl (t,k) (by simp) (wd_k h1).1
     ·exact e.trans (List.prefix_append _ _)
   have hm:=tk_move ha hbr hne h1 hZ
   rw [←List.append_assoc,List.take_append_drop] at hm
   have ih:=ts_app f (k+n) (A.drop n) B r y (by rw [List.length_drop];omega) (ha.drop _) hb h2 (fun z hz=>by
    refine hl z ?_
    cases r with
    | nil=>cases hz
    | cons a b=>rw [List.getLast?_cons_cons];exact hz) (by rw [List.length_drop,show k+n+(A.length-n)=k+A.length by omega];exact hy)
   rw [tsA_step k hbAB (by simp [hne]),hm]
   simp only
   rw [List.drop_append_of_le_length nl,ih]
   rfl
end
end Go.Proofs.YtbogfailbgbdoaaGreatDoor.K
