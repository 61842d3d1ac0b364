/- Part 8. -/
import Derived.Test.YtbogfailbgbdoaaGreatDoorXA7
set_option linter.unusedVariables false
set_option linter.unusedSimpArgs false
namespace Go.Proofs.YtbogfailbgbdoaaGreatDoor.K
set_option maxRecDepth 100000
section
open Go.RowKit Go.Proofs.YtbogfailbgbdoaaGreatDoor U
def Ends (L:List Nat) (n:Nat):Prop:=∃ W,L.take n=W++[62]
theorem Ends.plus {L:List Nat} {k m:Nat} (h:Ends (L.drop k) m):Ends L (k+m):=by
 obtain ⟨W,hW⟩:=h
 refine ⟨L.take k++W,?_⟩
 rw [List.append_assoc,←hW,List.take_add]
theorem Ends.pre {s L:List Nat} {k:Nat} (h:(s++[62]) <+: L.drop k):Ends L (k+(s.length+1)):=by
 have hl:=h.length_le
 rw [List.length_drop,List.length_append,List.length_singleton] at hl
 obtain ⟨t,ht⟩:=h
 refine Ends.plus (k:=k) ⟨s,?_⟩
 rw [←ht,List.take_append_of_le_length (by simp),List.take_of_length_le (by simp)]
theorem up_pre {s L:List Nat} {i:Nat} (h:upP s L = .ok i):s <+: L.drop i:=by
 unfold upP at h
 rcases h1:ix s L with _ | j
 ·rw [h1] at h;cases h
 ·rw [h1] at h;injection h with h;subst h;exact (ix_some h1).2
theorem wd_k {L:List Nat} {t:Tk} {n:Nat} (h:wdP L = .ok (t,n)):t.k=4∧n=wdN L:=by
 unfold wdP at h
 split at h
 ·cases h
 rcases h2:told (L.take (wdN L)) with _ | v
 ·rw [h2] at h;cases h
 ·rw [h2] at h;injection h with h;injection h with h3 h4
  exact ⟨by rw [←h3],h4.symm⟩
theorem tk_end {first:Bool} {L:List Nat} {t:Tk} {m:Nat} (h60:[60] <+: L) (h:tkP first L = .ok (t,m)):Ends L m:=by
 unfold tkP at h
 split at h
 ·obtain ⟨k,h1,rfl⟩:=plus_ok h
  refine Ends.plus ?_
  unfold dcP at h1
  rcases h2:atP (L.drop 5) with e | ⟨l,n⟩
  ·rw [h2] at h1;cases h1
  ·rw [h2] at h1
   simp only at h1
   split at h1
   ·rename_i hp
    rcases h4:mdP l with _ | e
    ·rw [h4] at h1;injection h1 with h1;injection h1 with _ h6
     subst h6
     exact Ends.pre (s:=[63]) hp
    ·rw [h4] at h1;cases h1
   ·cases h1
 split at h
 ·obtain ⟨k,h1,rfl⟩:=plus_ok h
  refine Ends.plus ?_
  unfold piP at h1
  rcases h2:nmP (L.drop 2) with e | n
  ·rw [h2] at h1;cases h1
  ·rw [h2] at h1
   simp only at h1
   split at h1
   ·cases h1
   split at h1
   ·cases h1
   generalize sk blaP ((L.drop 2).drop n)=s at h1
   rcases h3:upP [63,62] ((L.drop 2).drop (n+s)) with e | i
   ·rw [h3] at h1;cases h1
   ·rw [h3] at h1;injection h1 with h1;injection h1 with _ h6
    subst h6
    have:=up_pre h3
    rw [List.drop_drop] at this
    exact Ends.pre (s:=[63]) this
 split at h
 ·obtain ⟨k,h1,rfl⟩:=plus_ok h
  refine Ends.plus ?_
  unfold rmP at h1
  rcases h2:upP [45,45] (L.drop 4) with e | i
  ·rw [h2] at h1;cases h1
  ·rw [h2] at h1
   simp only at h1
   split at h1
   ·rename_i hq
    injection h1 with h1;injection h1 with _ h6
    subst h6
    exact Ends.pre (s:=[]) hq
   ·cases h1
 split at h
 ·obtain ⟨k,h1,rfl⟩:=plus_ok h
  refine Ends.plus ?_
  unfold rwP at h1
  rcases h2:upP [93,93,62] (L.drop 9) with e | i
  ·rw [h2] at h1;cases h1
  ·rw [h2] at h1;injection h1 with h1;injection h1 with _ h6
   subst h6
   exact Ends.pre (s:=[93,93]) (up_pre h2)
 split at h
 ·cases h
 split at h
 ·obtain ⟨k,h1,rfl⟩:=plus_ok h
  refine Ends.plus ?_
  unfold enP at h1
  rcases h2:qnP (L.drop 2) with e | n
  ·rw [h2] at h1;cases h1
  ·rw [h2] at h1
   simp only at h1
   generalize sk blaP ((L.drop 2).drop n)=s at h1
   split at h1
   ·rename_i hq
    injection h1 with h1;injection h1 with _ h6
    subst h6
    exact Ends.pre (s:=[]) hq
   ·cases h1
 ·obtain ⟨k,h1,rfl⟩:=plus_ok h
  refine Ends.plus ?_
  unfold bgP at h1
  rcases h2:qnP (L.drop 1) with e | n
  ·rw [h2] at h1;cases h1
  ·rw [h2] at h1
   simp only at h1
   rcases h3:atP ((L.drop 1).drop n) with e | ⟨l,s⟩
   ·rw [h3] at h1;cases h1
   ·rw [h3] at h1
    simp only at h1
    split at h1
    ·split at h1
     ·rename_i hq
      injection h1 with h1;injection h1 with _ h6
      subst h6
      exact Ends.pre (s:=[]) hq
     ·cases h1
    ·split at h1
     ·rename_i hq
      injection h1 with h1;injection h1 with _ h6
      subst h6
      exact Ends.pre (s:=[]) hq
     ·cases h1
theorem tk_text {first:Bool} {L:List Nat} (h:¬[60] <+: L):tkP first L=wdP L:=by
 have key:∀ s,¬(60::s) <+: L:=fun s hs=>h (List.IsPrefix.trans (by simp [List.cons_prefix_cons]) hs)
 unfold tkP
 rw [if_neg (fun e=>key _ e.2.1),if_neg (key _),if_neg (key _),if_neg (key _),if_neg (key _),if_neg (key _),if_neg h]
theorem take_wd {L:List Nat}:60∉L.take (wdN L):=by
 unfold wdN
 rcases hi:ix [60] L with _ | i
 ·simp only;rw [List.take_length];exact ix1_none.1 hi
 ·exact (ix1_some hi).2.1
theorem wd_app {A Z:List Nat} (h:60∉A) (hZ:Z=[]∨[60] <+: Z):wdN (A++Z)=A.length:=by
 unfold wdN
 rcases hZ with rfl | hZ
 ·rw [List.append_nil,ix1_none.2 h]
 ·obtain ⟨t,rfl⟩:=pre1.1 hZ
  rw [ix1_app h]
theorem tk_move {first:Bool} {L Z:List Nat} {t:Tk} {n:Nat} (hb:Bs L) (hbz:Bs Z) (hne:L≠[]) (h:tkP first L = .ok (t,n)) (hZ:[60] <+: L∨Z=[]∨[60] <+: Z):tkP first (L.take n++Z) = .ok (t,n):=by
 have hn:=tkP_ok hb hne h
 by_cases h60:[60] <+: L
 ·obtain ⟨W,hW⟩:=tk_end h60 h
  have hlen:n=W.length+1:=by
   have:=congrArg List.length hW
   rw [List.length_take,List.length_append,List.length_singleton] at this
   omega
  have e:L=W++62::L.drop n:=by
   have:=List.take_append_drop n L
   rw [hW] at this
   simpa using this.symm
  rw [hW,show W++[62]++Z=W++62::Z by simp]
  rw [hlen] at h ⊢
  rw [e] at h h60
  rw [hlen] at h h60
  refine tk_w (Y:=L.drop (W.length+1)) ?_ ?_ h60 h
  ·rw [←hlen,←e];exact hb
  ·intro x hx
   rcases List.mem_append.1 hx with h1 | h1
   ·have:x∈L.take n:=by rw [hW];simp [h1]
    exact hb x (List.mem_of_mem_take this)
   ·rcases List.mem_cons.1 h1 with rfl | h2
    ·decide
    ·exact hbz x h2
 ·have hZ:Z=[]∨[60] <+: Z:=by
   rcases hZ with e | e
   ·exact absurd e h60
   ·exact e
  rw [tk_text h60] at h
  obtain ⟨_,hwd⟩:=wd_k h
  subst hwd
  have hA:=take_wd (L:=L)
  have hlA:(L.take (wdN L)).length=wdN L:=by rw [List.length_take];omega
  have h61:¬[60] <+: L.take (wdN L)++Z:=by
   intro e
   rw [pre_short (by rw [hlA];simp;omega)] at e
   obtain ⟨t,ht⟩:=e
   exact hA (by rw [←ht];simp)
  rw [tk_text h61]
  have e2:wdN (L.take (wdN L)++Z)=wdN L:=by rw [wd_app hA hZ,hlA]
  have e3:(L.take (wdN L)++Z).take (wdN L)=L.take (wdN L):=List.take_left' hlA
  unfold wdP at h ⊢
  rw [e2,e3]
  exact h
theorem tk_first {L:List Nat} {t:Tk} {n:Nat} (h:tkP true L = .ok (t,n)) (hk:t.k≠1):tkP false L = .ok (t,n):=by
 have hd:¬isDc true L:=fun hd=>by
  unfold tkP at h
  rw [if_pos hd] at h
  obtain ⟨k,h1,rfl⟩:=plus_ok h
  unfold dcP at h1
  rcases h2:atP (L.drop 5) with e | ⟨l,n⟩
  ·rw [h2] at h1;cases h1
  ·rw [h2] at h1
   simp only at h1
   split at h1
   ·rcases h4:mdP l with _ | e
    ·rw [h4] at h1;injection h1 with h1;injection h1 with h5 h6
     rw [←h5] at hk;exact hk rfl
    ·rw [h4] at h1;cases h1
   ·cases h1
 have hf:¬isDc false L:=fun hd=>by cases hd.1
 unfold tkP at h ⊢
 rw [if_neg hd] at h
 rw [if_neg hf]
 exact h
abbrev Tks0:=List (Tk × Nat)
theorem ts_cons {k:Nat} {L:List Nat} {l:Tks0} (hb:Bs L) (hne:L≠[]) (h:tsA k L = .ok l):∃ t n r,tkP (k == 0) L = .ok (t,n)∧tsA (k+n) (L.drop n) = .ok r∧l=(t,k)::r∧0<n∧n≤L.length:=by
 rw [tsA_step k hb hne] at h
 rcases h1:tkP (k == 0) L with e | ⟨t,n⟩
 ·rw [h1] at h;cases h
 ·rw [h1] at h
  simp only at h
  rcases h2:tsA (k+n) (L.drop n) with e | r
  ·rw [h2] at h;cases h
  ·rw [h2] at h;injection h with h
   have:=tkP_ok hb hne h1
   exact ⟨t,n,r,rfl,h2,h.symm,this.1,this.2⟩
theorem ts_nil {k:Nat} {l:Tks0} (h:tsA k [] = .ok l):l=[]:=by
 rw [tsA_nil] at h;injection h with h;exact h.symm
theorem text_then {first:Bool} {L:List Nat} {t:Tk} {n:Nat} (h60:¬[60] <+: L) (h:tkP first L = .ok (t,n)):L.drop n=[]∨[60] <+: L.drop n:=by
 rw [tk_text h60] at h
 rw [(wd_k h).2]
 unfold wdN
 rcases hi:ix [60] L with _ | i
 ·left;simp
 ·right;exact (ix_some hi).2
theorem pre_take {s L:List Nat} {m:Nat} (h:s <+: L) (hm:s.length≤m):s <+: L.take m:=by
 have:=List.prefix_take_iff.2 (⟨h,hm⟩:s <+: L∧s.length≤m)
 exact this
theorem ts_places:∀ (f k:Nat) (L:List Nat) (l:Tks0),L.length≤f→Bs L→tsA k L = .ok l→(l=[]↔L=[])∧(∀ i,i<l.length→k≤(l.getD i (⟨0,[],[],[],false⟩,0)).2∧(l.getD i (⟨0,[],[],[],false⟩,0)).2<k+L.length)∧(∀ i,i<l.length→i=0→(l.getD i (⟨0,[],[],[],false⟩,0)).2=k)∧
  (∀ i,0<i→i<l.length→(l.getD (i-1) (⟨0,[],[],[],false⟩,0)).2<(l.getD i (⟨0,[],[],[],false⟩,0)).2)∧
  (∀ i,i<l.length→(tsA k (L.take ((l.getD i (⟨0,[],[],[],false⟩,0)).2-k)) = .ok (l.take i))∧((l.getD i (⟨0,[],[],[],false⟩,0)).2=k∨(∃ W,L.take ((l.getD i (⟨0,[],[],[],false⟩,0)).2-k)=W++[62])∨[60] <+: L.drop ((l.getD i (⟨0,[],[],[],false⟩,0)).2-k)))
 | f,k,L,l,hf,hb,h=>by
  by_cases hne:L=[]
  ·subst hne
   rw [ts_nil h]
   exact ⟨by simp,fun i hi=>by simp at hi,fun i hi=>by simp at hi,fun i _ hi=>by simp at hi,fun i hi=>by simp at hi⟩
  obtain ⟨t,n,r,h1,h2,rfl,n0,nl⟩:=ts_cons hb hne h
  cases f with
  | zero=>exact absurd (List.eq_nil_of_length_eq_zero (by omega)) hne
  | succ f=>
   obtain ⟨i1,i2,i3,i4,i5⟩:=ts_places f (k+n) (L.drop n) r (by rw [List.length_drop];omega) (hb.drop _) h2
   rw [List.length_drop] at i2
   refine ⟨by simp [hne],fun i hi=>?_,fun i hi e=>by subst e;rfl,fun i h0 hi=>?_,fun i hi=>?_⟩
   ·cases i with
    | zero=>simp only [List.getD_cons_zero];omega
    | succ i=>
     have:=i2 i (by simpa using hi)
     simp only [List.getD_cons_succ];omega
   ·cases i with
    | zero=>omega
    | succ i=>
     simp only [List.getD_cons_succ,Nat.add_sub_cancel]
     cases i with
     | zero=>
      have:=i3 0 (by simpa using hi) rfl
      simp only [List.getD_cons_zero];omega
     | succ i=>
      have:=i4 (i+1) (by omega) (by simpa using hi)
      simp only [List.getD_cons_succ];simpa using this
   ·cases i with
    | zero=>
     exact ⟨by simp only [List.getD_cons_zero,Nat.sub_self,List.take_zero];rfl,Or.inl rfl⟩
    | succ i=>
     have hi':i<r.length:=by simpa using hi
     have hp:=i2 i hi'
     obtain ⟨j1,j2⟩:=i5 i hi'
     simp only [List.getD_cons_succ]
     generalize hq:(r.getD i (⟨0,[],[],[],false⟩,0)).2=q at *
     have eT:L.take (q-k)=L.take n++(L.drop n).take (q-(k+n)):=by
      rw [show q-k=n+(q-(k+n)) by omega,List.take_add]
     have hZ:[60] <+: L∨(L.drop n).take (q-(k+n))=[]∨[60] <+: (L.drop n).take (q-(k+n)):=by
      by_cases h60:[60] <+: L
      ·exact Or.inl h60
      ·rcases text_then h60 h1 with e | e
       ·right;left;rw [e];simp
       ·by_cases e0:q-(k+n)=0
        ·right;left;rw [e0];rfl
        ·right;right;exact pre_take e (by simp;omega)
     have hm:=tk_move hb (Z:=(L.drop n).take (q-(k+n))) (fun x hx=>hb x (List.mem_of_mem_drop (List.mem_of_mem_take hx))) hne h1 hZ
     refine ⟨?_,?_⟩
     ·rw [eT]
      have hbT:Bs (L.take n++(L.drop n).take (q-(k+n))):=by rw [←eT];exact hb.take _
      have hneT:L.take n++(L.drop n).take (q-(k+n))≠[]:=fun e=>by
       have:=congrArg List.length (List.append_eq_nil_iff.1 e).1
       rw [List.length_take,List.length_nil] at this;omega
      have hlT:(L.take n).length=n:=by rw [List.length_take];omega
      rw [tsA_step k hbT hneT,hm]
      simp only
      rw [List.drop_left' hlT,j1]
      rfl
     ·right
      rcases j2 with e | ⟨W,e⟩ | e
      ·by_cases h60:[60] <+: L
       ·left
        have:q-k=n:=by omega
        rw [this]
        exact tk_end h60 h1
       ·right
        have:q-k=n:=by omega
        rw [this]
        rcases text_then h60 h1 with e1 | e1
        ·exfalso
         rw [e1] at h2
         rw [ts_nil h2] at hi'
         simp at hi'
        ·exact e1
      ·left
       exact ⟨L.take n++W,by rw [eT,e,List.append_assoc]⟩
      ·right
       rw [List.drop_drop,show n+(q-(k+n))=q-k by omega] at e
       exact e
def sh (d:Nat) (l:Tks0):Tks0:=l.map fun x=>(x.1,x.2+d)
theorem ts_shift:∀ (f k d:Nat) (L:List Nat) (l:Tks0),L.length≤f→Bs L→tsA k L = .ok l→(k=0→∀ x∈l.head?,x.1.k≠1)→0<d→tsA (k+d) L = .ok (sh d l)
 | f,k,d,L,l,hf,hb,h,hk,hd=>by
  by_cases hne:L=[]
  ·subst hne;rw [ts_nil h];rfl
  obtain ⟨t,n,r,h1,h2,rfl,n0,nl⟩:=ts_cons hb hne h
  cases f with
  | zero=>exact absurd (List.eq_nil_of_length_eq_zero (by omega)) hne
  | succ f=>
   have ih:=ts_shift f (k+n) d (L.drop n) r (by rw [List.length_drop];omega) (hb.drop _) h2 (fun e=>by omega) hd
   have h3:tkP (k+d == 0) L = .ok (t,n):=by
    have e:(k+d == 0)=false:=by rw [beq_eq_false_iff_ne];omega
    rw [e]
    by_cases k0:k=0
    ·subst k0
     exact tk_first h1 (hk rfl (t,0) (by simp))
    ·have e2:(k == 0)=false:=by rw [beq_eq_false_iff_ne];exact k0
     rw [e2] at h1;exact h1
   rw [tsA_step (k+d) hb hne,h3]
   simp only
   rw [show k+d+n=k+n+d by omega,ih]
   rfl
theorem ts_app:∀ (f k:Nat) (A B:List Nat) (x y:Tks0),A.length≤f→Bs A→Bs B→tsA k A = .ok x→(∀ z∈x.getLast?,z.1.k≠4)→tsA (k+A.length) B = .ok y→tsA k (A++B) = .ok (x++y)
 | f,k,A,B,x,y,hf,ha,hb,h,hl,hy=>by
  by_cases hne:A=[]
  ·subst hne;rw [ts_nil h];exact hy
  obtain ⟨t,n,r,h1,h2,rfl,n0,nl⟩:=ts_cons ha hne h
  cases f with
  | zero=>exact absurd (List.eq_nil_of_length_eq_zero (by omega)) hne
  | succ f=>
   have hr:r=[]↔A.drop n=[]:=(ts_places f (k+n) (A.drop n) r (by rw [List.length_drop];omega) (ha.drop _) h2).1
   have hbAB:Bs (A++B):=fun z hz=>(List.mem_append.1 hz).elim (ha z) (hb z)
   have hbr:Bs (A.drop n++B):=fun z hz=>(List.mem_append.1 hz).elim (fun e=>ha z (List.mem_of_mem_drop e)) (hb z)
   have hZ:[60] <+: A∨A.drop n++B=[]∨[60] <+: A.drop n++B:=by
    by_cases h60:[60] <+: A
    ·exact Or.inl h60
    ·right;right
     rcases text_then h60 h1 with e | e
     ·exfalso
      rw [tk_text h60] at h1
      have hr0:=hr.2 e
      subst hr0
      exact hl (t,k) (by simp) (wd_k h1).1
     ·exact e.trans (List.prefix_append _ _)
   have hm:=tk_move ha hbr hne h1 hZ
   rw [←List.append_assoc,List.take_append_drop] at hm
   have ih:=ts_app f (k+n) (A.drop n) B r y (by rw [List.length_drop];omega) (ha.drop _) hb h2 (fun z hz=>by
    refine hl z ?_
    cases r with
    | nil=>cases hz
    | cons a b=>rw [List.getLast?_cons_cons];exact hz) (by rw [List.length_drop,show k+n+(A.length-n)=k+A.length by omega];exact hy)
   rw [tsA_step k hbAB (by simp [hne]),hm]
   simp only
   rw [List.drop_append_of_le_length nl,ih]
   rfl
theorem strip_no {b:List Nat} (h:¬(2<b.length∧b.getD 0 0=239∧b.getD 1 0=187)):stripP b=b:=by
 unfold stripP
 rw [if_neg]
 intro e
 apply h
 match b,e with
 | [],e=>cases e
 | [_],e=>simp at e
 | [_,_],e=>simp at e
 | x::y::z::t,e=>simp at e;simp [e.1,e.2.1]
theorem sc_no13 {b:List Nat} (h13:13∉b) (hs:stripP b=b):scP b=match al charP b 0 with
  | some k => .error (k,22)
  | none=>tsA 0 b:=by
 unfold scP
 rw [hs,lin_same b fun x hx e=>h13 (e ▸ hx)]
 rfl
theorem sc_ok {b:List Nat} {l:Tks0} (h13:13∉b) (hs:stripP b=b) (h:scP b = .ok l):al charP b 0=none∧tsA 0 b = .ok l:=by
 rw [sc_no13 h13 hs] at h
 rcases ha:al charP b 0 with _ | k
 ·rw [ha] at h;exact ⟨rfl,h⟩
 ·rw [ha] at h;cases h
theorem sc_of {b:List Nat} {l:Tks0} (h13:13∉b) (hs:stripP b=b) (ha:al charP b 0=none) (h:tsA 0 b = .ok l):scP b = .ok l:=by
 rw [sc_no13 h13 hs,ha];exact h
abbrev tk0:Tk × Nat:=(⟨0,[],[],[],false⟩,0)
theorem places_plain {b:List Nat} {l:Tks0} (hb:Bs b) (h13:13∉b) (hbom:¬(2<b.length∧b.getD 0 0=239∧b.getD 1 0=187)) (h:scP b = .ok l) :
  (l=[]↔b=[])∧(∀ i,i<l.length→(l.getD i tk0).2<b.length∧(i=0→(l.getD i tk0).2=0)∧(0<i→(l.getD (i-1) tk0).2<(l.getD i tk0).2)∧scP (b.take (l.getD i tk0).2) = .ok (l.take i)):=by
 obtain ⟨ha,ht⟩:=sc_ok h13 (strip_no hbom) h
 obtain ⟨i1,i2,i3,i4,i5⟩:=ts_places b.length 0 b l (Nat.le_refl _) hb ht
 refine ⟨i1,fun i hi=>⟨by have h7:(l.getD i tk0).2<0+b.length:=(i2 i hi).2;omega,i3 i hi,fun h0=>i4 i h0 hi,?_⟩⟩
 obtain ⟨j1,j2⟩:=i5 i hi
 have hlt:=(i2 i hi).2
 change (l.getD i tk0).2<0+b.length at hlt
 change tsA 0 (b.take ((l.getD i tk0).2-0))=_ at j1
 change (l.getD i tk0).2=0∨(∃ W,b.take ((l.getD i tk0).2-0)=W++[62])∨[60] <+: b.drop ((l.getD i tk0).2-0) at j2
 generalize (l.getD i tk0).2=q at *
 rw [Nat.sub_zero] at j1 j2
 refine sc_of (fun e=>h13 (List.mem_of_mem_take e)) (strip_no fun e=>hbom ?_) ?_ j1
 ·obtain ⟨e1,e2,e3⟩:=e
  rw [List.length_take] at e1
  have g:∀ j,j<q→(b.take q).getD j 0=b.getD j 0:=fun j hj=>by simp [List.getD,hj]
  rw [g 0 (by omega)] at e2
  rw [g 1 (by omega)] at e3
  exact ⟨by omega,e2,e3⟩
 ·have hba:Bs (b.take q++b.drop q):=by rw [List.take_append_drop];exact hb
  refine al_cut charP _ (b.take q) (b.drop q) 0 0 (Nat.le_refl _) hba ?_ (by rw [List.take_append_drop];exact ha)
  rcases j2 with e | ⟨W,e⟩ | e
  ·subst e;right;right;right;rfl
  ·exact Or.inr (Or.inr (Or.inl ⟨W,62,by decide,e⟩))
  ·obtain ⟨t,ht⟩:=pre1.1 e
   exact Or.inr (Or.inl ⟨60,t,by decide,ht⟩)
theorem strip_head {b:List Nat} (h:∀ x∈b.head?,x≠239):stripP b=b:=by
 apply strip_no
 rintro ⟨h1,h2,_⟩
 cases b with
 | nil=>simp at h1
 | cons x t=>exact h x (by simp) (by simpa using h2)
theorem rows_plain {a b:List Nat} {x y:Tks0} (hba:Bs a) (h13:13∉a) (ha:∀ c∈a.head?,c≠239) (hbh:∀ c∈b.head?,c≠239) (hx:scP a = .ok x) (hy:scP b = .ok y)
  (hx0:x≠[]) (hyk:∀ z∈y.head?,z.1.k≠1) (hxl:∀ z∈x.getLast?,z.1.k≠4) (hlb:Bs (lin false b)):scP (a++b) = .ok (x++sh a.length y):=by
 obtain ⟨ha1,ha2⟩:=sc_ok h13 (strip_head ha) hx
 have hane:a≠[]:=fun e=>by subst e;exact hx0 (ts_nil ha2)
 have hal:0<a.length:=List.length_pos_iff.2 hane
 have hsab:stripP (a++b)=a++b:=strip_head (by cases a with
  | nil=>exact absurd rfl hane
  | cons c t=>simpa using ha)
 unfold scP at hy ⊢
 rw [strip_head hbh] at hy
 rw [hsab]
 rcases hb1:al charP b 0 with _ | k
 ·rw [hb1] at hy
  simp only at hy
  rw [al_both charP hba ha1 hb1]
  simp only
  rw [lin_app a b fun z hz e=>h13 (e ▸ hz)]
  show tsA 0 (a++lin false b)=_
  refine ts_app a.length 0 a (lin false b) x _ (Nat.le_refl _) hba hlb ha2 hxl ?_
  have:=ts_shift (lin false b).length 0 a.length (lin false b) y (Nat.le_refl _) hlb hy (fun _=>hyk) hal
  exact this
 ·rw [hb1] at hy;cases hy
theorem sk_y {p:Nat→Bool} (h0:p 0=false) {c:Nat} (hc:c<128) (h:p c=true) (t:List Nat):sk p (c::t)=1+sk p t:=by
 have e:=nx_asc hc t
 rw [sk_yes h0 (by rw [e];exact h),e];rfl
theorem sk_n {p:Nat→Bool} {c:Nat} (hc:c<128) (h:p c=false) (t:List Nat):sk p (c::t)=0:=sk_no (by rw [nx_asc hc t];exact h)
theorem skb1 {c:Nat} (hc:c<128) (h:blaP c=false) (t:List Nat):sk blaP (32::c::t)=1:=by
 rw [sk_y blaP_zero (by decide) (by decide +kernel),sk_n hc h]
theorem nm1 {c d:Nat} (hc:c<128) (hd:d<128) (h:begP c=true) (h':goP c=true) (h2:goP d=false) (t:List Nat):nmP (c::d::t) = .ok 1:=by
 unfold nmP
 rw [nx_asc hc,if_pos h,sk_y goP_zero hc h',sk_n hd h2]
theorem qn1 {c d:Nat} (hc:c<128) (hd:d<128) (h:begP c=true) (h':goP c=true) (h2:goP d=false) (hd':d≠58) (t:List Nat):qnP (c::d::t) = .ok 1:=by
 unfold qnP
 rw [nm1 hc hd h h' h2]
 simp only [List.drop_succ_cons,List.drop_zero]
 rw [if_neg]
 intro e
 exact hd' (List.cons_prefix_cons.1 e).1.symm
theorem flat_same {L:List Nat} (h:∀ x∈L,x≠9∧x≠10):flat L=L:=by
 unfold flat
 induction L with
 | nil=>rfl
 | cons c t ih=>
  have hc:=h c (by simp)
  rw [List.map_cons,if_neg (by omega),ih fun x hx=>h x (by simp [hx])]
theorem esc_ne {q:Bool} {V:List Nat}:60∉esc q V∧62∉esc q V∧13∉esc q V:=
 ⟨fun h=>(esc_no q V 60 h).1 rfl,fun h=>(esc_no q V 62 h).2.1 rfl,fun h=>(esc_no q V 13 h).2.2.1 rfl⟩
theorem esc_39 {V:List Nat} (h:39∉V):39∉esc true V:=fun hx=>by
 obtain ⟨c,hc,hx⟩:=List.mem_flatMap.1 hx
 unfold esc1 at hx
 repeat' split at hx
 all_goals (simp at hx;try (subst hx;exact h hc))
theorem esc_34 {V:List Nat}:34∉esc true V:=fun h=>((esc_no true V 34 h).2.2.2 rfl).1 rfl
theorem qu_esc {q:Nat} {V:List Nat} (h:q∉esc true V) (t:List Nat):quP q (esc true V++q::t) = .ok (V,(esc true V).length+1):=by
 unfold quP upP
 rw [ix1_app h]
 simp only
 rw [List.take_left' rfl]
 unfold plP
 rw [if_neg esc_ne.1,flat_same (fun x hx=>((esc_no true V x hx).2.2.2 rfl).2),told_esc]
theorem bs_l (l:List Nat) (h:l.all (fun x=>decide (x<256))=true):Bs l:=fun x hx=>by simpa using List.all_eq_true.1 h x hx
theorem ok_n {α : Type} {a : α} {m n:Nat} (h:m=n):(Except.ok (a,m):Except Nat (α × Nat)) = .ok (a,n):=by rw [h]
theorem bg_quote {q:Nat} {V:List Nat} (hq:q=39∨q=34) (h:q∉esc true V) (t:List Nat) :
  bgP (97::32::98::32::61::32::q::(esc true V++q::32::62::t)) = .ok (⟨5,[97],[],[([98],V)],false⟩,(esc true V).length+10):=by
 have b32:goP 32=false:=by decide +kernel
 have b97:begP 97=true:=by decide +kernel
 have g97:goP 97=true:=by decide +kernel
 have b98:begP 98=true:=by decide +kernel
 have g98:goP 98=true:=by decide +kernel
 have l98:blaP 98=false:=by decide +kernel
 have l61:blaP 61=false:=by decide +kernel
 have l62:blaP 62=false:=by decide +kernel
 have b62:begP 62=false:=by decide +kernel
 have lq:blaP q=false:=by rcases hq with rfl | rfl <;> decide +kernel
 have hq8:q<128:=by omega
 have vl:vlP (32::61::32::q::(esc true V++q::32::62::t)) = .ok (V,(esc true V).length+5):=by
  unfold vlP
  rw [skb1 (by decide) l61]
  simp only [List.drop_succ_cons,List.drop_zero,Nat.reduceAdd]
  rw [if_pos (pre1.2 ⟨_,rfl⟩),skb1 hq8 lq]
  simp only [List.drop_succ_cons,List.drop_zero,Nat.reduceAdd]
  rcases hq with rfl | rfl
  ·rw [if_pos (pre1.2 ⟨_,rfl⟩),qu_esc h]
   show Except.ok (V,1+1+1+1+((esc true V).length+1))=_
   exact ok_n (by omega)
  ·rw [if_neg (by intro e;have:=(List.cons_prefix_cons.1 e).1;omega),if_pos (pre1.2 ⟨_,rfl⟩),qu_esc h]
   show Except.ok (V,1+1+1+1+((esc true V).length+1))=_
   exact ok_n (by omega)
 have on:onP (98::32::61::32::q::(esc true V++q::32::62::t)) = .ok (([98],V),(esc true V).length+6):=by
  unfold onP
  rw [qn1 (by decide) (by decide) b98 g98 b32 (by decide)]
  simp only [List.drop_succ_cons,List.drop_zero]
  rw [vl]
  simp only [List.take_succ_cons,List.take_zero]
  exact ok_n (by omega)
 have at2:∀ f acc,0<f→atF f acc (32::62::t) = .ok (acc,1):=fun f acc hf=>by
  obtain ⟨g,rfl⟩:∃ g,f=g+1:=⟨f-1,by omega⟩
  rw [atF,skb1 (by decide) l62,if_neg (by decide)]
  simp only [List.drop_succ_cons,List.drop_zero]
  rw [nx_asc (by decide),if_neg (by rw [b62];decide)]
 have at1:atP (32::98::32::61::32::q::(esc true V++q::32::62::t)) = .ok ([([98],V)],(esc true V).length+8):=by
  unfold atP
  simp only [List.length_cons]
  rw [atF,skb1 (by decide) l98,if_neg (by decide)]
  simp only [List.drop_succ_cons,List.drop_zero]
  rw [nx_asc (by decide),if_pos b98,on]
  simp only [List.map_nil,List.not_mem_nil,if_false,List.length_nil,List.nil_append]
  rw [if_neg (by decide)]
  have hd:(32::98::32::61::32::q::(esc true V++q::32::62::t)).drop (1+((esc true V).length+6))=32::62::t:=by
   rw [show 1+((esc true V).length+6)=(esc true V).length+1+6 by omega]
   simp only [List.drop_succ_cons]
   rw [List.drop_append,List.drop_eq_nil_of_le (by omega)]
   simp
  rw [hd,at2 _ _ (by simp)]
  simp only
  exact ok_n (by omega)
 unfold bgP
 rw [qn1 (by decide) (by decide) b97 g97 b32 (by decide)]
 simp only [List.drop_succ_cons,List.drop_zero]
 rw [at1]
 simp only
 have hd1:(97::32::98::32::61::32::q::(esc true V++q::32::62::t)).drop (1+((esc true V).length+8))=62::t:=by
  rw [show 1+((esc true V).length+8)=(esc true V).length+2+7 by omega]
  simp only [List.drop_succ_cons]
  rw [List.drop_append,List.drop_eq_nil_of_le (by omega)]
  simp
 rw [hd1,if_neg (by intro e;have:=(List.cons_prefix_cons.1 e).1;omega),if_pos (pre1.2 ⟨_,rfl⟩)]
 simp only [List.take_succ_cons,List.take_zero]
 exact ok_n (by omega)
theorem tk_bg {first:Bool} {c:Nat} {t:List Nat} (h1:c≠63) (h2:c≠33) (h3:c≠47):tkP first (60::c::t)=plus 1 (bgP (c::t)):=by
 have key:∀ d s,d≠c→¬(60::d::s) <+: (60::c::t):=fun d s hd e=>hd (List.cons_prefix_cons.1 (List.cons_prefix_cons.1 e).2).1
 unfold tkP
 rw [if_neg (fun e=>key _ _ h1.symm e.2.1),if_neg (key _ _ h1.symm),if_neg (key _ _ h2.symm),if_neg (key _ _ h2.symm),if_neg (key _ _ h2.symm),if_neg (key _ _ h3.symm),if_pos (pre1.2 ⟨_,rfl⟩)]
 rfl
theorem tk_en:tkP false [60,47,97,10,62] = .ok (⟨6,[97],[],[],false⟩,5):=by
 have key:∀ d s,d≠47→¬(60::d::s) <+: [60,47,97,10,62]:=fun d s hd e=>hd (List.cons_prefix_cons.1 (List.cons_prefix_cons.1 e).2).1
 unfold tkP
 rw [if_neg (fun e=>by cases e.1),if_neg (key _ _ (by decide)),if_neg (key _ _ (by decide)),if_neg (key _ _ (by decide)),if_neg (key _ _ (by decide)),if_pos (by decide)]
 simp only [List.drop_succ_cons,List.drop_zero]
 have:enP [97,10,62] = .ok (⟨6,[97],[],[],false⟩,3):=by
  unfold enP
  rw [qn1 (by decide) (by decide) (by decide +kernel) (by decide +kernel) (by decide +kernel) (by decide)]
  simp only [List.drop_succ_cons,List.drop_zero]
  rw [sk_y blaP_zero (by decide) (by decide +kernel),sk_n (by decide) (by decide +kernel)]
  simp only [List.drop_succ_cons,List.drop_zero,Nat.reduceAdd]
  rw [if_pos (by decide)]
  rfl
 rw [this]
 rfl
theorem tk_tx {T:List Nat} (hT:T≠[]) (Z:List Nat) (hZ:[60] <+: Z):tkP false (esc false T++Z) = .ok (⟨4,[],T,[],false⟩,(esc false T).length):=by
 have he:esc false T≠[]:=fun e=>by
  have:=told_esc false T
  rw [e,told_nil] at this
  injection this with this
  exact hT this.symm
 obtain ⟨h60,h62,_⟩:=esc_ne (q:=false) (V:=T)
 have hn:¬[60] <+: esc false T++Z:=by
  have hl:=List.length_pos_iff.2 he
  intro e
  rw [pre_short (by simp;omega)] at e
  obtain ⟨t,ht⟩:=e
  exact h60 (by rw [←ht];simp)
 rw [tk_text hn]
 unfold wdP
 rw [wd_app h60 (Or.inr hZ),List.take_left' rfl,told_esc,if_neg]
 intro e
 rcases hi:ix [93,93,62] (esc false T) with _ | i
 ·rw [hi] at e;cases e
 ·obtain ⟨t,ht⟩:=(ix_some hi).2
  have:62∈(esc false T).drop i:=by rw [←ht];simp
  exact h62 (List.mem_of_mem_drop this)
def quoteL (q:Nat) (V T:List Nat):List Nat:=60::97::32::98::32::61::32::q::(esc true V++q::32::62::(esc false T++[60,47,97,10,62]))
theorem quotes_plain {q:Nat} {V T:List Nat} (hq:q=39∨q=34) (h:q∉esc true V) (hbV:Bs V) (hbT:Bs T) (haV:al charP V 0=none) (haT:al charP T 0=none) :
  ∃ a b,scP (quoteL q V T) = .ok ((⟨5,[97],[],[([98],V)],false⟩,0)::((if T=[] then [] else [(⟨4,[],T,[],false⟩,a)])++[(⟨6,[97],[],[],false⟩,b)])):=by
 have bV:=esc_bs (q:=true) hbV
 have bT:=esc_bs (q:=false) hbT
 have hbL:Bs (quoteL q V T):=by
  intro x hx
  unfold quoteL at hx
  simp only [List.mem_cons,List.mem_append,List.not_mem_nil,or_false] at hx
  rcases hx with e | e | e | e | e | e | e | e | e | e | e | e | e | e
  all_goals first
   | exact bV x e
   | exact bT x e
   | omega
 have h13:13∉quoteL q V T:=by
  intro hx
  unfold quoteL at hx
  simp only [List.mem_cons,List.mem_append,List.not_mem_nil,or_false] at hx
  have e1:=(esc_ne (q:=true) (V:=V)).2.2
  have e2:=(esc_ne (q:=false) (V:=T)).2.2
  rcases hx with e | e | e | e | e | e | e | e | e | e | e | e | e | e
  all_goals first
   | exact absurd e e1
   | exact absurd e e2
   | omega
 have c1:charP q=true:=by rcases hq with rfl | rfl <;> decide +kernel
 have cs:∀ (l:List Nat),(∀ x∈l,x<128∧charP x=true)→Bs l∧al charP l 0=none:=fun l hl=>⟨fun x hx=>by have:=(hl x hx).1;omega,al_asc l 0 hl⟩
 have hA1:=cs [60,97,32,98,32,61,32,q] (fun x hx=>by
  simp only [List.mem_cons,List.not_mem_nil,or_false] at hx
  rcases hx with rfl | rfl | rfl | rfl | rfl | rfl | rfl | rfl
  all_goals first
   | exact ⟨by decide,by decide +kernel⟩
   | exact ⟨by omega,c1⟩)
 have hA2:=cs [q,32,62] (fun x hx=>by
  simp only [List.mem_cons,List.not_mem_nil,or_false] at hx
  rcases hx with rfl | rfl | rfl
  all_goals first
   | exact ⟨by decide,by decide +kernel⟩
   | exact ⟨by omega,c1⟩)
 have hA3:al charP [60,47,97,10,62] 0=none:=by decide +kernel
 have eL:quoteL q V T=[60,97,32,98,32,61,32,q]++(esc true V++([q,32,62]++(esc false T++[60,47,97,10,62]))):=by simp [quoteL]
 have ha:al charP (quoteL q V T) 0=none:=by
  rw [eL]
  exact al_both charP hA1.1 hA1.2 (al_both charP bV (esc_al true V.length V (Nat.le_refl _) hbV haV) (al_both charP hA2.1 hA2.2 (al_both charP bT (esc_al false T.length T (Nat.le_refl _) hbT haT) hA3)))
 have hs:stripP (quoteL q V T)=quoteL q V T:=strip_head (by intro x hx;unfold quoteL at hx;simp at hx;omega)
 have h1:tkP true (quoteL q V T) = .ok (⟨5,[97],[],[([98],V)],false⟩,(esc true V).length+11):=by
  unfold quoteL
  rw [tk_bg (by decide) (by decide) (by decide),bg_quote hq h]
  show Except.ok (_,1+((esc true V).length+10))=_
  exact ok_n (by omega)
 have hd1:(quoteL q V T).drop ((esc true V).length+11)=esc false T++[60,47,97,10,62]:=by
  unfold quoteL
  rw [show (esc true V).length+11=(esc true V).length+3+8 by omega]
  simp only [List.drop_succ_cons]
  rw [List.drop_append,List.drop_eq_nil_of_le (by omega)]
  simp
 have hlast:∀ k,0<k→tsA k [60,47,97,10,62] = .ok [(⟨6,[97],[],[],false⟩,k)]:=fun k hk=>by
  rw [tsA_step k (bs_l _ (by decide)) (by simp),show (k == 0)=false by rw [beq_eq_false_iff_ne];omega,tk_en]
  simp only [List.drop_succ_cons,List.drop_nil]
  rw [tsA_nil]
 have hne:quoteL q V T≠[]:=by simp [quoteL]
 by_cases hT:T=[]
 ·refine ⟨0,(esc true V).length+11,sc_of h13 hs ha ?_⟩
  rw [tsA_step 0 hbL hne,show ((0:Nat) == 0)=true from rfl,h1]
  simp only
  rw [hd1,hT,esc_nil,List.nil_append,hlast _ (by omega)]
  simp
 ·refine ⟨(esc true V).length+11,(esc true V).length+11+(esc false T).length,sc_of h13 hs ha ?_⟩
  rw [tsA_step 0 hbL hne,show ((0:Nat) == 0)=true from rfl,h1]
  simp only
  rw [hd1]
  have hb2:Bs (esc false T++[60,47,97,10,62]):=by rw [←hd1];exact hbL.drop _
  rw [tsA_step _ hb2 (by simp),show (0+((esc true V).length+11) == 0)=false by rw [beq_eq_false_iff_ne];omega,tk_tx hT _ (pre1.2 ⟨_,rfl⟩)]
  simp only
  rw [List.drop_left' rfl,hlast _ (by omega)]
  simp [hT]
theorem ix_raw {T:List Nat} (h:ix [93,93,62] T=none):ix [93,93,62] (T++[93,93,62])=some T.length:=by
 refine ix_is (by simp) (by rw [List.drop_left' rfl];exact List.prefix_refl _) fun j hj hp=>?_
 by_cases hl:j+3≤T.length
 ·rw [List.drop_append_of_le_length (by omega)] at hp
  rw [pre_short (by rw [List.length_drop];simp;omega)] at hp
  exact (ix_none (by simp)).1 h j hp
 ·obtain ⟨t,ht⟩:=hp
  have h2:(T++[93,93,62])[j+2]? = some 62:=by
   rw [←List.getElem?_drop,←ht];rfl
  rw [List.getElem?_append_right (by omega)] at h2
  have:j+2-T.length=0∨j+2-T.length=1:=by omega
  rcases this with e | e <;> rw [e] at h2 <;> simp at h2
theorem raw_plain {T:List Nat} (hb:Bs T) (ha:al charP T 0=none) (h13:13∉T) (h:ix [93,93,62] T=none) :
  scP ([60,33,91,67,68,65,84,65,91]++(T++[93,93,62])) = .ok [(⟨4,[],T,[],false⟩,0)]:=by
 obtain ⟨L,hL⟩:∃ L,L=[60,33,91,67,68,65,84,65,91]++(T++[93,93,62]):=⟨_,rfl⟩
 rw [←hL]
 have hbL:Bs L:=by
  rw [hL];intro x hx
  rcases List.mem_append.1 hx with e | e
  ·exact (bs_l _ (by decide)) x e
  ·rcases List.mem_append.1 e with e | e
   ·exact hb x e
   ·exact (bs_l _ (by decide)) x e
 have ha1:al charP L 0=none:=by
  rw [hL];exact al_both charP (bs_l _ (by decide)) (by decide +kernel) (al_both charP hb ha (by decide +kernel))
 have h1:13∉L:=by
  rw [hL];intro hx
  rcases List.mem_append.1 hx with e | e
  ·revert e;decide
  ·rcases List.mem_append.1 e with e | e
   ·exact h13 e
   ·revert e;decide
 have key:∀ d s,d≠33→¬(60::d::s) <+: L:=fun d s hd e=>by
  rw [hL] at e;exact hd (List.cons_prefix_cons.1 (List.cons_prefix_cons.1 e).2).1
 have k2:¬[60,33,45,45] <+: L:=fun e=>by
  rw [hL] at e
  have:=(List.cons_prefix_cons.1 (List.cons_prefix_cons.1 (List.cons_prefix_cons.1 e).2).2).1
  omega
 have htk:tkP true L = .ok (⟨4,[],T,[],false⟩,L.length):=by
  unfold tkP
  rw [if_neg (fun e=>key _ _ (by decide) e.2.1),if_neg (key _ _ (by decide)),if_neg k2,if_pos (by rw [hL];exact List.prefix_append _ _)]
  have:L.drop 9=T++[93,93,62]:=by rw [hL];rfl
  rw [this]
  unfold rwP upP
  rw [ix_raw h]
  simp only
  rw [List.take_left' rfl]
  show Except.ok (_,9+(T.length+3))=_
  exact ok_n (by rw [hL];simp;omega)
 refine sc_of h1 (strip_head (by rw [hL];simp)) ha1 ?_
 rw [tsA_step 0 hbL (by rw [hL];simp),show ((0:Nat) == 0)=true from rfl,htk]
 simp only
 rw [List.drop_length,tsA_nil]
def txP (s:List Nat):Option (List Nat):=if al charP s 0=none∧60∉s∧13∉s∧ix [93,93,62] s=none then told s else none
theorem tx_esc {q:Bool} {s:List Nat} (hb:Bs s) (h:al charP s 0=none):txP (esc q s)=some s:=by
 obtain ⟨h60,h62,h13⟩:=esc_ne (q:=q) (V:=s)
 have hix:ix [93,93,62] (esc q s)=none:=by
  rw [ix_none (by simp)]
  intro j hj
  obtain ⟨t,ht⟩:=hj
  have:62∈(esc q s).drop j:=by rw [←ht];simp
  exact h62 (List.mem_of_mem_drop this)
 unfold txP
 rw [if_pos ⟨esc_al q s.length s (Nat.le_refl _) hb h,h60,h13,hix⟩,told_esc]
theorem contains_raw (xs:List Nat) (S:ByteArray) (hS:S=txt xs) (hb:Bs xs) (hl:xs.length≤1000000) (w:World) (hT:TU w) :
  Calls Tryz.prog 27 #[.string S,.string ⟨#[93,93,62]⟩] w fun e w'=>e = .returned (.bool (ix [93,93,62] xs).isSome)∧w'=w:=by
 obtain ⟨m,hm⟩:=hT.len
 refine (Any.strings_Contains scon S ⟨#[93,93,62]⟩ m w (by rw [hS,txt_size];omega) hm).mono ?_
 rintro e w' ⟨rfl,rfl⟩
 refine ⟨?_,rfl⟩
 have e1:=ix_lib (s:=[93,93,62]) (L:=xs) (fun x hx=>by simp at hx;omega) hb
 unfold Lib.contains
 rw [hS,txt_list,show (⟨#[93,93,62]⟩:ByteArray).data.toList=u8L [93,93,62] from rfl,e1]
 rcases hi:ix [93,93,62] xs with _ | i
 ·rfl
 ·rw [show ixI (some i)=(i:Int) from rfl,decide_eq_true (by omega)];rfl
set_option maxHeartbeats 3200000 in
theorem text_any (xs:List Nat) (S:ByteArray) (hS:S=txt xs) (hb:Bs xs) (w:World) (hl:xs.length≤1000000) (hT:TT w) :
  Calls Tryz.prog 14 #[.string S] w fun e w'=>e = .returned (tdR (txP xs))∧Below w.heap.size w w':=by
 have hz:S.size=xs.length:=by rw [hS];exact txt_size xs
 have hbt:bts S=xs:=by rw [hS];exact bts_txt hb
 obtain ⟨NEW,CAP,hcvt,hnb,hnl⟩:=text_run S (by omega)
 rw [hbt] at hnl
 obtain ⟨N,hN⟩:∃ N,N=xs.length:=⟨_,rfl⟩
 rw [hz,←hN] at hcvt
 have KC:Hid (Calls Tryz.prog 21 #[.slice (some ⟨w.heap.size,0,none⟩) N (CAP w)] (NEW w) fun e w'=>e = .returned (.tuple #[.int .i64 ((alA charP xs).1:Nat),.bool (alA charP xs).2])∧Below (NEW w).heap.size (NEW w) w'):=
  Lib.hid (by rw [hN];exact Check_any (some ⟨w.heap.size,0,none⟩) (CAP w) xs (NEW w) (hnl w) (by omega) (hT.tu.grow (hnb w)))
 have HB1:=Lib.hid (hnb w)
 have HTT:Hid (∀ W,Below w.heap.size w W→TT W):=Lib.hid fun W hW=>hT.grow hW
 have K26:=Lib.hid fun W=>containsAny_any xs S hS hb hl W
 have K27:=Lib.hid fun W (hW:TT W)=>contains_raw xs S hS hb hl W hW.tu
 have K28:=Lib.hid fun W (hW:TT W)=>told_any xs S hS hb W hl hW
 obtain ⟨R,hR⟩:∃ R,R=txP xs:=⟨_,rfl⟩
 rw [←hR]
 unfold txP at hR
 rcases hal:al charP xs 0 with _ | k
 ·have ha:alA charP xs=(0,true):=by unfold alA;rw [hal];rfl
  rw [ha] at KC
  rw [hal] at hR
  by_cases h1:60∈xs∨13∈xs
  ·have HR:Hid (R=none):=Lib.hid (by rw [hR,if_neg];rintro ⟨_,h2,h3,_⟩;rcases h1 with h1 | h1;exact h2 h1;exact h3 h1)
   rw [decide_eq_true h1] at K26
   clear hal ha hz hbt hnb hnl hb hT hS hN hl hR K27 K28 h1
   go_enter Tryz.func14,Tryz.ntmps14
   go_wp2_with (first
    | (go_at_call 21;(with_reducible refine KC.out.mono ?_);rintro e w2 ⟨rfl,hb2⟩;have HB2:=Lib.hid (HB1.out.trans (hb2.mono HB1.out.size));clear hb2)
    | (go_at_call 26;(with_reducible refine (K26.out w2).mono ?_);rintro e w3 ⟨rfl,hb3⟩;have HB3:=Lib.hid (HB2.out.trans (hb3.mono HB2.out.size));clear hb3))
   go_ret2
   exact ⟨by rw [HR.out];rfl,HB3.out⟩
  ·rw [decide_eq_false h1] at K26
   rcases hix:ix [93,93,62] xs with _ | i
   ·rw [hix] at K27 hR
    have HR:Hid (R=told xs):=Lib.hid (by rw [hR,if_pos ⟨rfl,fun h=>h1 (.inl h),fun h=>h1 (.inr h),rfl⟩])
    rw [←HR.out] at K28
    clear hal ha hz hbt hnb hnl hb hT hS hN hl hR h1 hix
    have K27:Hid (∀ W,TT W→Calls Tryz.prog 27 #[.string S,.string ⟨#[93,93,62]⟩] W fun e w'=>e = .returned (.bool false)∧w'=W):=K27
    rcases hr:R with _ | v
    ·rw [hr] at K28
     unfold tdR at K28
     simp only at K28
     clear hr HR
     go_enter Tryz.func14,Tryz.ntmps14
     go_wp2_with (first
      | (go_at_call 21;(with_reducible refine KC.out.mono ?_);rintro e w2 ⟨rfl,hb2⟩;have HB2:=Lib.hid (HB1.out.trans (hb2.mono HB1.out.size));clear hb2)
      | (go_at_call 26;(with_reducible refine (K26.out w2).mono ?_);rintro e w3 ⟨rfl,hb3⟩;have HB3:=Lib.hid (HB2.out.trans (hb3.mono HB2.out.size));clear hb3)
      | (go_at_call 27;(with_reducible refine (K27.out w3 (HTT.out w3 HB3.out)).mono ?_);rintro e w4 ⟨rfl,rfl⟩)
      | (go_at_call 28;(with_reducible refine (K28.out _ (HTT.out _ HB3.out)).mono ?_);rintro e w5 ⟨rfl,hb5⟩;have HB5:=Lib.hid (HB3.out.trans (hb5.mono HB3.out.size));clear hb5))
     go_ret2
     exact ⟨rfl,HB5.out⟩
    ·rw [hr] at K28
     unfold tdR at K28
     simp only at K28
     clear hr HR
     go_enter Tryz.func14,Tryz.ntmps14
     go_wp2_with (first
      | (go_at_call 21;(with_reducible refine KC.out.mono ?_);rintro e w2 ⟨rfl,hb2⟩;have HB2:=Lib.hid (HB1.out.trans (hb2.mono HB1.out.size));clear hb2)
      | (go_at_call 26;(with_reducible refine (K26.out w2).mono ?_);rintro e w3 ⟨rfl,hb3⟩;have HB3:=Lib.hid (HB2.out.trans (hb3.mono HB2.out.size));clear hb3)
      | (go_at_call 27;(with_reducible refine (K27.out w3 (HTT.out w3 HB3.out)).mono ?_);rintro e w4 ⟨rfl,rfl⟩)
      | (go_at_call 28;(with_reducible refine (K28.out _ (HTT.out _ HB3.out)).mono ?_);rintro e w5 ⟨rfl,hb5⟩;have HB5:=Lib.hid (HB3.out.trans (hb5.mono HB3.out.size));clear hb5))
     go_ret2
     exact ⟨rfl,HB5.out⟩
   ·rw [hix] at K27 hR
    have HR:Hid (R=none):=Lib.hid (by rw [hR,if_neg];rintro ⟨_,_,_,h⟩;cases h)
    have K27:Hid (∀ W,TT W→Calls Tryz.prog 27 #[.string S,.string ⟨#[93,93,62]⟩] W fun e w'=>e = .returned (.bool true)∧w'=W):=K27
    clear hal ha hz hbt hnb hnl hb hT hS hN hl hR h1 hix K28
    go_enter Tryz.func14,Tryz.ntmps14
    go_wp2_with (first
     | (go_at_call 21;(with_reducible refine KC.out.mono ?_);rintro e w2 ⟨rfl,hb2⟩;have HB2:=Lib.hid (HB1.out.trans (hb2.mono HB1.out.size));clear hb2)
     | (go_at_call 26;(with_reducible refine (K26.out w2).mono ?_);rintro e w3 ⟨rfl,hb3⟩;have HB3:=Lib.hid (HB2.out.trans (hb3.mono HB2.out.size));clear hb3)
     | (go_at_call 27;(with_reducible refine (K27.out w3 (HTT.out w3 HB3.out)).mono ?_);rintro e w4 ⟨rfl,rfl⟩))
    go_ret2
    exact ⟨by rw [HR.out];rfl,HB3.out⟩
 ·have ha:alA charP xs=(k,false):=by unfold alA;rw [hal];rfl
  rw [ha] at KC
  have HR:Hid (R=none):=Lib.hid (by rw [hR,hal,if_neg];rintro ⟨h,_⟩;cases h)
  clear hal ha hz hbt hnb hnl hb hT hS hN hl hR K26 K27 K28
  go_enter Tryz.func14,Tryz.ntmps14
  go_wp2_with (go_at_call 21;(with_reducible refine KC.out.mono ?_);rintro e w2 ⟨rfl,hb2⟩;have HB2:=Lib.hid (HB1.out.trans (hb2.mono HB1.out.size));clear hb2)
  go_ret2
  exact ⟨by rw [HR.out];rfl,HB2.out⟩
def Bw (b R:Nat) (p:Value) (L:List Nat) (w:World):Prop:=b<R∧∃ v,w.heap[b]? = some (.cells #[p,v] 68 (0,0))∧w.ownsRow R 5 1 v L.length (u8s L)
def Bw1 (b R:Nat) (L:List Nat) (w:World):Prop:=Bw b R (.pointer (some ⟨b,0,none⟩)) L w
def Bwo (b R:Nat) (L:List Nat) (w:World):Prop:=Bw b R (.pointer none) L w∨Bw1 b R L w
theorem Bw1.o {b R:Nat} {L:List Nat} {w:World} (h:Bw1 b R L w):Bwo b R L w := .inr h
theorem Bw.bu {b R:Nat} {p:Value} {L:List Nat} {w:World} (h:Bw b R p L w):Lib.BuilderAt 68 5 b b p (u8s L) w:=by
 obtain ⟨hb,v,h1,h2⟩:=h
 exact ⟨Nat.le_refl _,v,h1,by rw [u8s_len];exact own_base h2 (by omega),fun e=>by have:=(h2.lt b e).1;omega⟩
theorem Bwo.bu {b R:Nat} {L:List Nat} {w:World} (h:Bwo b R L w):Bu b b L w:=by
 rcases h with h | h
 ·exact .inl h.bu
 ·exact .inr h.bu
theorem Bw.touch {b R:Nat} {p:Value} {L:List Nat} {w w':World} {S:Nat→Prop} (h:Bw b R p L w) (ht:Touch S w w') (hS:∀ k,S k→k≠b∧k<R):Bw b R p L w':=by
 obtain ⟨hb,v,h1,h2⟩:=h
 refine ⟨hb,v,(ht.block b (Array.getElem?_eq_some_iff.1 h1).1 fun e=>(hS b e).1 rfl).trans h1,ownsRow_touch h2 ht fun k hk e=>?_⟩
 have:=(h2.lt k hk).1
 have:=(hS k e).2
 omega
theorem Bwo.below {b R:Nat} {L:List Nat} {w w':World} (h:Bwo b R L w) (hb:Below w.heap.size w w'):Bwo b R L w':=by
 have ht:Touch (fun _=>False) w w':=Touch.of_below hb
 rcases h with h | h
 ·exact .inl (Bw.touch h ht fun _ e=>e.elim)
 ·exact .inr (Bw.touch h ht fun _ e=>e.elim)
theorem Bwo.fresh (w:World) (R:Nat) (hR:w.heap.size<R):Bwo w.heap.size R [] (w.alloc (.cells #[.pointer none,.slice none 0 0] 68)):=
 .inl ⟨hR,.slice none 0 0,heap_alloc_new w _,World.ownsRow_nil _ _ _ _⟩
theorem Bw.put {b R:Nat} {p v v':Value} {L:List Nat} {w:World} (hb:b<R) (h1:w.heap[b]? = some (.cells #[p,v] 68 (0,0))) (h2:w.ownsRow R 5 1 v' L.length (u8s L)):Bw b R p L (w.setCell ⟨b,1,none⟩ v'):=by
 refine ⟨hb,v',?_,?_⟩
 ·simp [World.setCell,Array.getElem?_modify,h1]
 ·exact ownsRow_touch h2 (S:=fun k=>k=b) ((Touch.refl _ w).setCell ⟨b,1,none⟩ v' (.inl rfl)) fun k hk e=>by have:=(h2.lt k hk).1;omega
abbrev BT (b R:Nat):Nat→Prop:=fun k=>k=b∨R≤k
theorem copyCheck_r (b R:Nat) (L:List Nat) (w:World) (h:Bwo b R L w) :
  Calls Tryz.prog 63 #[.pointer (some ⟨b,0,none⟩)] w fun e w'=>e = .returned (.tuple #[])∧Bw1 b R L w'∧Touch (BT b R) w w':=by
 rcases h with h | h
 ·have hbu:=h.bu
  refine (copyCheck_fresh b w hbu.cell0 hbu.shape hbu.frozen0).mono ?_
  rintro e w' ⟨rfl,rfl⟩
  have ht:Touch (fun k=>k=b) w (w.setCell ⟨b,0,none⟩ (.pointer (some ⟨b,0,none⟩))):=(Touch.refl _ w).setCell ⟨b,0,none⟩ _ (.inl rfl)
  refine ⟨rfl,?_,ht.mono fun k e => .inl e⟩
  obtain ⟨hb,v,h1,h2⟩:=h
  refine ⟨hb,v,?_,?_⟩
  ·simp [World.setCell,Array.getElem?_modify,h1]
  ·exact ownsRow_touch h2 ht fun k hk e=>by have:=(h2.lt k hk).1;omega
 ·refine (copyCheck_used b w h.bu.cell0).mono ?_
  rintro e w' ⟨rfl,rfl⟩
  exact ⟨rfl,h,Touch.refl _ _⟩
set_option maxHeartbeats 1600000 in
theorem writeString_r (b R:Nat) (L s:List Nat) (S:ByteArray) (hS:S=txt s) (w:World) (hs:Bs s) (h:Bwo b R L w) (hlen:L.length+s.length≤100000000) (hR:R≤w.heap.size) :
  Calls Tryz.prog 34 #[.pointer (some ⟨b,0,none⟩),.string S] w fun e w'=>(∃ r,e = .returned r)∧Bw1 b R (L++s) w'∧Touch (BT b R) w w':=by
 subst hS
 obtain ⟨i0,hi,hz0,hz1,hz2⟩:=info_parts xbld.infoByte
 have K:=Lib.hid (copyCheck_r b R L w h)
 have hcs:=strCells_txt s hs
 have hz:=txt_size s
 clear h
 go_enter Tryz.func34,Tryz.ntmps34
 go_wp2_with (go_at_call 63;(with_reducible refine K.out.mono ?_))
 rintro e w1 ⟨rfl,h1,hb1⟩
 obtain ⟨hB,v,hbk,hown⟩:=h1
 have c0:w1.cell? ⟨b,0,none⟩=some (.pointer (some ⟨b,0,none⟩)):=by rw [Lib.cell_of_heap hbk];rfl
 have c1:w1.cell? ⟨b,1,none⟩=some v:=by rw [Lib.cell_of_heap hbk];rfl
 go_wp2_with (at_builtin;refine Lib.wpList_append_own_string _ rfl _ _ 22 9 rfl R 5 i0 Tryz.underlying22 Tryz.underlying9 hi hz0 hz1 hz2 _ _ _ rfl hown (txt s) rfl ?c3 ?c4 ?c5 ?_)
 case c3=>rw [hz];unfold maxLen;omega
 case c4=>rw [hz];omega
 case c5=>have:=hb1.size;omega
 intro v' w2 hown' hgrow _
 have hlt:b<w1.heap.size:=(Array.getElem?_eq_some_iff.1 hbk).1
 have hb2:w2.heap[b]? = some (.cells #[.pointer (some ⟨b,0,none⟩),v] 68 (0,0)):=by
  rw [hgrow.block b hlt (fun e=>by have:=(hown.lt b e.symm).1;omega)]
  exact hbk
 have d0:w2.cell? ⟨b,0,none⟩=some (.pointer (some ⟨b,0,none⟩)):=by rw [Lib.cell_of_heap hb2];rfl
 have d1:w2.cell? ⟨b,1,none⟩=some v:=by rw [Lib.cell_of_heap hb2];rfl
 have f1:w2.frozen? ⟨b,1,none⟩=false:=Lib.frozen_of_heap hb2 1
 obtain ⟨ao,cap,rfl⟩:=own_shape' hown'
 rw [u8s_app] at hown'
 have ht2:=hb1.grown hgrow (fun k hk => .inl (.inr (hown.lt k hk).1))
 go_wp2
 go_ret2
 refine ⟨⟨_,rfl⟩,Bw.put hB hb2 (L:=L++s) (by rw [List.length_append];exact hown'),ht2.setCell ⟨b,1,none⟩ _ (.inl (.inl rfl))⟩
set_option maxHeartbeats 1600000 in
theorem writeByte_r (b R:Nat) (L:List Nat) (x:Nat) (w:World) (h:Bwo b R L w) (hlen:L.length+1≤100000000) (hR:R≤w.heap.size) :
  Calls Tryz.prog 35 #[.pointer (some ⟨b,0,none⟩),.int .u8 (x:Nat)] w fun e w'=>(∃ r,e = .returned r)∧Bw1 b R (L++[x]) w'∧Touch (BT b R) w w':=by
 obtain ⟨i0,hi,hz0,hz1,hz2⟩:=info_parts xbld.infoByte
 have K:=Lib.hid (copyCheck_r b R L w h)
 clear h
 go_enter Tryz.func35,Tryz.ntmps35
 go_wp2_with (go_at_call 63;(with_reducible refine K.out.mono ?_))
 rintro e w1 ⟨rfl,h1,hb1⟩
 obtain ⟨hB,v,hbk,hown⟩:=h1
 have c0:w1.cell? ⟨b,0,none⟩=some (.pointer (some ⟨b,0,none⟩)):=by rw [Lib.cell_of_heap hbk];rfl
 have c1:w1.cell? ⟨b,1,none⟩=some v:=by rw [Lib.cell_of_heap hbk];rfl
 have hsz:=hb1.size
 have hown2:=ownsRow_below hown (lit_below w1 (.cells #[.int .u8 (x:Nat)] 5))
 go_wp2_with (at_builtin;refine wpList_append_x at22 rfl (.tmp 11) (.tmp 13) rfl R v (.slice (some ⟨w1.heap.size,0,none⟩) 1 1) L.length 1 (u8s L) [.int .u8 (x:Nat)] rfl rfl hown2 (cells_one _ _ _) rfl (by intro u hu;rw [List.mem_singleton] at hu;subst hu;rfl) (by rw [alloc_size];omega) (by omega) (by omega) ?_)
 intro ao cap w2 hA
 have hlt:b<w1.heap.size:=(Array.getElem?_eq_some_iff.1 hbk).1
 have hb1':(w1.alloc (.cells #[.int .u8 (x:Nat)] 5)).heap[b]? = some (.cells #[.pointer (some ⟨b,0,none⟩),v] 68 (0,0)):=((lit_below w1 _).block b hlt).trans hbk
 have hb2:w2.heap[b]? = some (.cells #[.pointer (some ⟨b,0,none⟩),v] 68 (0,0)):=(hA.touch.block b (by rw [alloc_size];omega) (fun e=>by have:=(hown.lt b e).1;omega)).trans hb1'
 have d0:w2.cell? ⟨b,0,none⟩=some (.pointer (some ⟨b,0,none⟩)):=by rw [Lib.cell_of_heap hb2];rfl
 have d1:w2.cell? ⟨b,1,none⟩=some v:=by rw [Lib.cell_of_heap hb2];rfl
 have f1:w2.frozen? ⟨b,1,none⟩=false:=Lib.frozen_of_heap hb2 1
 have hown':=hA.own
 rw [show ([Value.int .u8 (x:Nat)]:List Value)=u8s [x] from rfl,u8s_app] at hown'
 have hBl:Touch (BT b R) w1 w2:=hA.alloc.touch.mono fun k hk => .inr (hown.lt k hk).1
 clear hA
 go_wp2
 go_ret
 refine ⟨⟨_,rfl⟩,Bw.put hB hb2 (L:=L++[x]) (by rw [List.length_append];exact hown'),(hb1.trans hBl).setCell ⟨b,1,none⟩ _ (.inl (.inl rfl))⟩
def esR (q:Bool) (c:Nat):List Nat:=
 if c=38 then [38,97,109,112,59] else if c=60 then [38,108,116,59] else if c=62 then [38,103,116,59] else if c=13 then [38,35,49,51,59]
 else if q=true∧c=34 then [38,113,117,111,116,59] else if q=true∧c=9 then [38,35,57,59] else if q=true∧c=10 then [38,35,49,48,59] else []
theorem esc1_esR (q:Bool) (c:Nat):esc1 q c=if esR q c=[] then [c] else esR q c:=by
 unfold esc1 esR
 repeat' split
 all_goals first
  | rfl
  | (exfalso;simp_all)
theorem escaped_any (q:Bool) (c:Nat) (hc:c<256) (w:World) :
  Calls Tryz.prog 33 #[.int .u8 (c:Nat),.bool q] w fun e w'=>e = .returned (.string (txt (esR q c)))∧w'=w:=by
 obtain ⟨R,hR⟩:∃ R,R=txt (esR q c):=⟨_,rfl⟩
 rw [←hR]
 have HR:=Lib.hid hR
 clear hR
 cases q
 all_goals (
  go_enter Tryz.func33,Tryz.ntmps33
  go_wp2
  all_goals go_ret
  all_goals (refine ⟨?_,rfl⟩;rw [HR.out];unfold esR)
  all_goals (repeat' split)
  all_goals first
   | rfl
   | (exfalso;omega)
   | (exfalso;simp_all;done)
   | (exfalso;simp_all;omega))
def esA (q:Bool) (s:List Nat):Value:=if al charP s 0=none then .tuple #[.string (txt (esc q s)),.bool true] else .tuple #[.string ⟨#[]⟩,.bool false]
theorem esc_take (q:Bool) {L:List Nat} {j:Nat} (h:j<L.length):esc q (L.take (j+1))=esc q (L.take j)++esc1 q (L.getD j 0):=by
 have e:L.getD j 0=L[j]:=by simp [List.getD,h]
 rw [take_next L j h,esc_app,esc_cons,esc_nil,List.append_nil,e]
theorem sl_bt {w5 W:World} {g cp b R:Nat} {xs:List Nat} (hs:Sl w5 (some ⟨g,0,none⟩) cp xs) (hW:Touch (BT b R) w5 W) (hgb:g≠b) (hR:R=w5.heap.size):Sl W (some ⟨g,0,none⟩) cp xs:=by
 refine ⟨hs.src.touch hW fun b' off e hne hbt=>?_,hs.le,hs.big,hs.nil,hs.bs⟩
 injection e with e
 injection e with e1 e2
 subst e1
 rcases hs.src with h0 | ⟨b2,off2,e2,hc⟩
 ·exact hne h0
 ·injection e2 with e2
  injection e2 with e3 e4
  have h1:=hc 0 (List.length_pos_iff.2 hne)
  rw [←e3] at h1
  have:=World.block_lt_of_cell? _ _ h1
  simp only at this
  rcases hbt with hbt | hbt
  ·exact hgb hbt
  ·omega
set_option maxHeartbeats 6400000 in
theorem escape_any (xs:List Nat) (S:ByteArray) (hS:S=txt xs) (hb:Bs xs) (q:Bool) (w:World) (hl:xs.length≤1000000) (hT:TT w) :
  Calls Tryz.prog 18 #[.string S,.bool q] w fun e w'=>e = .returned (esA q xs)∧Below w.heap.size w w':=by
 have hz:S.size=xs.length:=by rw [hS];exact txt_size xs
 have hbt:bts S=xs:=by rw [hS];exact bts_txt hb
 obtain ⟨NEW,CAP,hcvt,hnb,hnl⟩:=text_run S (by omega)
 rw [hbt] at hnl
 obtain ⟨N,hN⟩:∃ N,N=xs.length:=⟨_,rfl⟩
 have HN:=Lib.hid hN
 rw [hz,←hN] at hcvt
 have KC:Hid (Calls Tryz.prog 21 #[.slice (some ⟨w.heap.size,0,none⟩) N (CAP w)] (NEW w) fun e w'=>e = .returned (.tuple #[.int .i64 ((alA charP xs).1:Nat),.bool (alA charP xs).2])∧Below (NEW w).heap.size (NEW w) w'):=
  Lib.hid (by rw [hN];exact Check_any (some ⟨w.heap.size,0,none⟩) (CAP w) xs (NEW w) (hnl w) (by omega) (hT.tu.grow (hnb w)))
 have HB1:=Lib.hid (hnb w)
 have HNB:=Lib.hid hnb
 have HNL:=Lib.hid hnl
 have HBS:=Lib.hid hb
 have HL:N≤1000000:=by omega
 unfold esA
 rcases hal:al charP xs 0 with _ | k
 ·have ha:alA charP xs=(0,true):=by unfold alA;rw [hal];rfl
  rw [ha] at KC
  rw [if_pos rfl]
  obtain ⟨RR,hRR⟩:∃ RR,RR=txt (esc q xs):=⟨_,rfl⟩
  rw [←hRR]
  have HRR:=Lib.hid hRR
  clear hal ha hz hbt hnb hnl hb hT hS hN hRR hl
  go_enter Tryz.func18,Tryz.ntmps18
  go_wp2_with (go_at_call 21;(with_reducible refine KC.out.mono ?_);rintro e w2 ⟨rfl,hb2⟩;have HB2:=Lib.hid (HB1.out.trans (hb2.mono HB1.out.size));clear hb2)
  have hlit:=lit_below w2 (.cells #[.pointer none,.slice none 0 0] 68)
  obtain ⟨w3,hw3⟩:∃ w3,w3=w2.alloc (.cells #[.pointer none,.slice none 0 0] 68):=⟨_,rfl⟩
  rw [←hw3] at hlit ⊢
  have hz3:w3.heap.size=w2.heap.size+1:=by rw [hw3,alloc_size]
  obtain ⟨b,hb⟩:∃ b,b=w2.heap.size:=⟨_,rfl⟩
  obtain ⟨g,hg⟩:∃ g,g=w3.heap.size:=⟨_,rfl⟩
  obtain ⟨cp,hcp⟩:∃ cp,cp=CAP w3:=⟨_,rfl⟩
  obtain ⟨w5,hw5⟩:∃ w5,w5=NEW w3:=⟨_,rfl⟩
  obtain ⟨R,hR⟩:∃ R,R=w5.heap.size:=⟨_,rfl⟩
  have hb5:=HNB.out w3
  have hs5:=HNL.out w3
  rw [←hw5] at hb5 hs5
  rw [←hg,←hcp] at hs5
  have hb5R:R=w5.heap.size:=hR
  have hbR:b<R:=by have:=hb5.size;omega
  have HSL:Hid (∀ W,Touch (BT b R) w5 W→Sl W (some ⟨g,0,none⟩) cp xs):=Lib.hid fun W hW=>sl_bt hs5 hW (by omega) hR
  have HBW0:Hid (Bwo b R [] w5):=Lib.hid (by
   have h0:=Bwo.fresh w2 R (by omega)
   rw [←hw3,←hb] at h0
   exact h0.below hb5)
  have HBel:Hid (∀ W,Touch (BT b R) w5 W→Below w.heap.size w W):=Lib.hid fun W hW=>by
   have hs2:=HB2.out.size
   refine ((HB2.out.trans (hlit.mono hs2)).trans (hb5.mono (by omega))).trans (hW.below (by have:=hb5.size;omega) fun k hk=>?_)
   rcases hk with hk | hk <;> omega
  have HBG:Hid (b<g):=Lib.hid (by omega)
  have HRs:Hid (∀ W,Touch (BT b R) w5 W→R≤W.heap.size):=Lib.hid fun W hW=>by rw [hR];exact hW.size
  have HBR:Hid (b<R):=Lib.hid hbR
  have HBwb:Hid (w.heap.size≤b):=Lib.hid (by rw [hb];exact HB2.out.size)
  have eg:w2.heap.size+1=g:=by rw [hg,hz3]
  have eb:w2.heap.size=b:=hb.symm
  have ec:CAP w3=cp:=hcp.symm
  have ew:NEW w3=w5:=hw5.symm
  have hcv:=hcvt w3
  have EG:=Lib.hid eg
  have EB:=Lib.hid eb
  have EC:=Lib.hid ec
  have EW:=Lib.hid ew
  rw [hz3] at hcv
  clear hcvt hb5 hs5 hR hb5R hbR hlit hw3 hz3 hb hg hcp hw5 eg eb ec ew
  go_wp2
  rw [EG.out,EB.out,EC.out,EW.out]
  clear hcv
  go_loopw [23] (fun vi wr=>∃ j:Nat,j≤N∧vi = .int .i64 (j:Nat)∧Hid (Bwo b R (esc q (xs.take j)) wr)∧Hid (Touch (BT b R) w5 wr)) (fun vi _=>N-(intOf vi).toNat)
  case atStart=>exact ⟨0,Nat.zero_le _,rfl,HBW0,Lib.hid (Touch.refl _ _)⟩
  case round=>
   obtain ⟨j,hj,rfl,hbw,htw⟩:=hrel
   have HRW:=Lib.hid (HRs.out wr htw.out)
   by_cases hlt:j<N
   ·have hji:(j:Int)<N:=by omega
    have hjx:j<xs.length:=by rw [←HN.out];exact hlt
    have hcell:=(HSL.out wr htw.out).cell j hjx
    rw [Nat.zero_add] at hcell
    have hx:=HBS.out.at j
    have hes:=esc_take q hjx
    have hel:=esc_len q (xs.take j)
    rw [List.length_take] at hel
    obtain ⟨x,hxx⟩:∃ x,x=xs.getD j 0:=⟨_,rfl⟩
    rw [←hxx] at hcell hes hx
    rw [esc1_esR] at hes
    have KE:=Lib.hid fun W=>escaped_any q x hx W
    have HBE:Bs (esR q x):=by
     have h1:=esc1_bs (q:=q) hx
     rw [esc1_esR] at h1
     by_cases he:esR q x=[]
     ·rw [he];exact Bs.nil
     ·rw [if_neg he] at h1;exact h1
    have hrl:=(esc1_len q x).1
    rw [esc1_esR] at hrl
    generalize esR q x=E at KE hes HBE hrl
    generalize esc q (xs.take j)=A at hes hel hbw
    have hAl:A.length≤6000000:=by omega
    by_cases hE:E=[]
    ·subst hE
     rw [if_pos rfl] at hes
     have HES:=Lib.hid hes
     have KE:Hid (∀ W,Calls Tryz.prog 33 #[.int .u8 (x:Nat),.bool q] W fun e w'=>e = .returned (.string ⟨#[]⟩)∧w'=W):=KE
     have KW:=Lib.hid fun (W:World) (hW:W=wr)=>writeByte_r b R A x W (by rw [hW];exact hbw.out) (by omega) (by rw [hW];exact HRW.out)
     clear hes hxx hel HBE hrl
     go_wp2_with (first
      | (go_at_call 33;(with_reducible refine (KE.out _).mono ?_);rintro e w6 ⟨rfl,rfl⟩)
      | (go_at_call 35;(with_reducible refine (KW.out _ rfl).mono ?_);rintro e w7 ⟨⟨r7,rfl⟩,h7,ht7⟩;have HB7:=Lib.hid h7.o;have HT7:=Lib.hid (htw.out.trans ht7);clear h7 ht7))
     refine ⟨⟨j+1,by omega,by go_num,?_,HT7⟩,?_⟩
     ·rw [HES.out];exact HB7
     ·simp [intOf];omega
    ·rw [if_neg hE] at hes hrl
     have HES:=Lib.hid hes
     obtain ⟨T,hT⟩:∃ T,T=txt E:=⟨_,rfl⟩
     rw [←hT] at KE
     have hTn:T.toList≠[]:=by rw [hT,ByteArray.toList_eq,txt_list];intro e;apply hE;simpa [u8L] using e
     have hTe:T.toList.isEmpty=false:=by
      cases hq:T.toList with
      | nil=>exact absurd hq hTn
      | cons _ _=>rfl
     have KW:=Lib.hid fun (W:World) (hW:W=wr)=>writeString_r b R A E T hT W HBE (by rw [hW];exact hbw.out) (by omega) (by rw [hW];exact HRW.out)
     clear hes hxx hel HBE hrl hT hE
     go_wp2_with (first
      | (go_at_call 33;(with_reducible refine (KE.out _).mono ?_);rintro e w6 ⟨rfl,rfl⟩)
      | (go_at_call 34;(with_reducible refine (KW.out _ rfl).mono ?_);rintro e w7 ⟨⟨r7,rfl⟩,h7,ht7⟩;have HB7:=Lib.hid h7.o;have HT7:=Lib.hid (htw.out.trans ht7);clear h7 ht7))
     refine ⟨⟨j+1,by omega,by go_num,?_,HT7⟩,?_⟩
     ·rw [HES.out];exact HB7
     ·simp [intOf];omega
   ·obtain rfl:j=N:=by omega
    have hbu:=hbw.out.bu
    have htk:xs.take j=xs:=List.take_of_length_le (by rw [HN.out];exact Nat.le_refl _)
    rw [htk] at hbu
    have hbz:b≤wr.heap.size:=by have:=HRW.out;have:=HBR.out;omega
    have KS:=Lib.hid (string_any b b (esc q xs) wr (esc_bs HBS.out) hbu hbz)
    rw [←HRR.out] at KS
    have HBW:=Lib.hid (HBel.out wr htw.out)
    clear htk hbu
    go_wp2_with (go_at_call 36;(with_reducible refine KS.out.mono ?_);rintro e w8 ⟨rfl,hb8⟩;have HB8:=Lib.hid hb8;clear hb8)
    go_ret2
    exact ⟨rfl,HBW.out.trans (HB8.out.mono HBwb.out)⟩
 ·have ha:alA charP xs=(k,false):=by unfold alA;rw [hal];rfl
  rw [ha] at KC
  rw [if_neg (by simp)]
  clear hal ha hz hbt hnb hnl hb hT hS hN hl
  go_enter Tryz.func18,Tryz.ntmps18
  go_wp2_with (go_at_call 21;(with_reducible refine KC.out.mono ?_);rintro e w2 ⟨rfl,hb2⟩;have HB2:=Lib.hid (HB1.out.trans (hb2.mono HB1.out.size));clear hb2)
  go_ret2
  exact ⟨rfl,HB2.out⟩
end
end Go.Proofs.YtbogfailbgbdoaaGreatDoor.K
