/- Part 20. -/
import Derived.Deep.CutRange
import Derived.Test.YtbogfailbgbdoaaGreatDoorXB19
set_option linter.unusedVariables false
set_option linter.unusedSimpArgs false
namespace Go.Proofs.YtbogfailbgbdoaaGreatDoor.K
set_option maxRecDepth 100000
section
open Go.RowKit Go.Proofs.YtbogfailbgbdoaaGreatDoor U
def Ez {α : Type} (r:Except Nat α):Prop:=∀ e,r = .error e→e≠0
theorem Ez.ok {α : Type} (x : α):Ez (.ok x:Except Nat α):=fun e h=>by cases h
theorem Ez.err {α : Type} {n:Nat} (h:n≠0):Ez (.error n:Except Nat α):=fun e h'=>by injection h' with h';rw [←h'];exact h
theorem Ez.of {α : Type} {r:Except Nat α} {e:Nat} (h:Ez r) (hr:r = .error e):e≠0:=h e hr
theorem nm_ez (L:List Nat):Ez (nmP L):=by
 unfold nmP;split
 ·exact .ok _
 ·exact .err (by decide)
theorem up_ez (s L:List Nat):Ez (upP s L):=by
 unfold upP;split
 ·exact .err (by decide)
 ·exact .ok _
theorem qn_ez (L:List Nat):Ez (qnP L):=by
 unfold qnP
 rcases h:nmP L with e | n
 ·exact .err ((nm_ez L).of h)
 ·simp only
  split
  ·rcases h2:nmP (L.drop (n+1)) with e | m
   ·exact .err ((nm_ez _).of h2)
   ·exact .ok _
  ·exact .ok _
theorem qu_ez (q:Nat) (L:List Nat):Ez (quP q L):=by
 unfold quP
 rcases h:upP [q] L with e | i
 ·exact .err ((up_ez _ L).of h)
 ·simp only
  rcases h2:plP (L.take i) with e | v
  ·exact .err (by rw [plP_err h2];decide)
  ·exact .ok _
theorem vl_ez (L:List Nat):Ez (vlP L):=by
 unfold vlP
 split
 ·split
  ·rcases h2:quP 39 (L.drop (sk blaP L+1+sk blaP (L.drop (sk blaP L+1))+1)) with e | ⟨v,n⟩
   ·exact .err ((qu_ez _ _).of h2)
   ·exact .ok _
  ·split
   ·rcases h2:quP 34 (L.drop (sk blaP L+1+sk blaP (L.drop (sk blaP L+1))+1)) with e | ⟨v,n⟩
    ·exact .err ((qu_ez _ _).of h2)
    ·exact .ok _
   ·exact .err (by decide)
 ·exact .err (by decide)
theorem on_ez (L:List Nat):Ez (onP L):=by
 unfold onP
 rcases h:qnP L with e | n
 ·exact .err ((qn_ez L).of h)
 ·simp only
  rcases h2:vlP (L.drop n) with e | ⟨v,m⟩
  ·exact .err ((vl_ez _).of h2)
  ·exact .ok _
theorem atF_ez:∀ (f:Nat) (acc:List At) (L:List Nat),Ez (atF f acc L)
 | 0,acc,L => .ok _
 | f+1,acc,L=>by
  unfold atF
  split
  ·exact .ok _
  split
  ·rcases h:onP (L.drop (sk blaP L)) with e | ⟨a,n⟩
   ·exact .err ((on_ez _).of h)
   ·simp only
    split
    ·exact .err (by decide)
    split
    ·exact .err (by decide)
    rcases h2:atF f (acc++[a]) (L.drop (sk blaP L+n)) with e | ⟨l,m⟩
    ·exact .err ((atF_ez f _ _).of h2)
    ·exact .ok _
  ·exact .ok _
theorem md_ez {l:List At} {e:Nat} (h:mdP l=some e):e≠0:=by
 have m3:∀ l e,md3 l=some e→e≠0:=fun l e h=>by
  unfold md3 at h
  split at h
  ·cases h
  ·injection h with h;omega
 have m2:∀ l e,md2 l=some e→e≠0:=fun l e h=>by
  unfold md2 at h
  split at h
  ·cases h
  ·split at h
   ·split at h
    ·exact m3 _ _ h
    ·injection h with h;omega
   ·exact m3 _ _ h
 have m1:∀ l e,md1 l=some e→e≠0:=fun l e h=>by
  unfold md1 at h
  split at h
  ·cases h
  ·split at h
   ·split at h
    ·exact m2 _ _ h
    ·injection h with h;omega
   ·exact m2 _ _ h
 unfold mdP at h
 split at h
 ·injection h with h;omega
 ·split at h
  ·exact m1 _ _ h
  ·injection h with h;omega
theorem plus_ez {n:Nat} {r:Except Nat (Tk × Nat)} (h:Ez r):Ez (plus n r):=by
 rcases r with e | ⟨t,m⟩
 ·exact .err (h.of rfl)
 ·exact .ok _
theorem tk_ez (first:Bool) (L:List Nat):Ez (tkP first L):=by
 unfold tkP
 split
 ·refine plus_ez ?_
  unfold dcP
  rcases h:atP (L.drop 5) with e | ⟨l,n⟩
  ·exact .err ((atF_ez _ _ _).of h)
  ·simp only
   split
   ·rcases h2:mdP l with _ | e
    ·exact .ok _
    ·exact .err (md_ez h2)
   ·exact .err (by decide)
 split
 ·refine plus_ez ?_
  unfold piP
  rcases h:nmP (L.drop 2) with e | n
  ·exact .err ((nm_ez _).of h)
  ·simp only
   split
   ·exact .err (by decide)
   split
   ·exact .err (by decide)
   rcases h2:upP [63,62] ((L.drop 2).drop (n+sk blaP ((L.drop 2).drop n))) with e | i
   ·exact .err ((up_ez _ _).of h2)
   ·exact .ok _
 split
 ·refine plus_ez ?_
  unfold rmP
  rcases h:upP [45,45] (L.drop 4) with e | i
  ·exact .err ((up_ez _ _).of h)
  ·simp only
   split
   ·exact .ok _
   ·exact .err (by decide)
 split
 ·refine plus_ez ?_
  unfold rwP
  rcases h:upP [93,93,62] (L.drop 9) with e | i
  ·exact .err ((up_ez _ _).of h)
  ·exact .ok _
 split
 ·exact .err (by decide)
 split
 ·refine plus_ez ?_
  unfold enP
  rcases h:qnP (L.drop 2) with e | n
  ·exact .err ((qn_ez _).of h)
  ·simp only
   split
   ·exact .ok _
   ·exact .err (by decide)
 split
 ·refine plus_ez ?_
  unfold bgP
  rcases h:qnP (L.drop 1) with e | n
  ·exact .err ((qn_ez _).of h)
  ·simp only
   rcases h2:atP ((L.drop 1).drop n) with e | ⟨l,m⟩
   ·exact .err ((atF_ez _ _ _).of h2)
   ·simp only
    split
    ·split
     ·exact .ok _
     ·exact .err (by decide)
    ·split
     ·exact .ok _
     ·exact .err (by decide)
 ·unfold wdP
  split
  ·exact .err (by decide)
  rcases h:told (L.take (wdN L)) with _ | v
  ·exact .err (by decide)
  ·exact .ok _
theorem tsF_ez:∀ (f k:Nat) (L:List Nat) (a e:Nat),tsF f k L = .error (a,e)→e≠0
 | 0,k,L,a,e,h=>by cases h
 | f+1,k,L,a,e,h=>by
  unfold tsF at h
  split at h
  ·cases h
  rcases h1:tkP (k == 0) L with e' | ⟨t,n⟩
  ·rw [h1] at h
   injection h with h;injection h with _ h
   rw [←h];exact (tk_ez _ _).of h1
  ·rw [h1] at h
   simp only at h
   rcases h2:tsF f (k+n) (L.drop n) with ⟨a',e'⟩ | l
   ·rw [h2] at h
    injection h with h;injection h with _ h
    rw [←h];exact tsF_ez f _ _ a' e' h2
   ·rw [h2] at h;cases h
theorem sc_ez {b:List Nat} {a e:Nat} (h:scP b = .error (a,e)):e≠0:=by
 unfold scP at h
 split at h
 ·injection h with h;injection h with _ h;omega
 ·exact tsF_ez _ _ _ a e h
theorem nE_e {c:Nat} {xs:List Nat} {k e:Nat} (he:e≠0):nE c xs k e=e:=by unfold nE;rw [if_neg (fun h=>he h.1)]
theorem unR_e {s L:List Nat} {e:Nat} (he:e≠0):unR s L e=([],0,e):=by unfold unR;rw [if_neg he]
theorem unR_up (s L:List Nat):match upP s L with
  | .ok i=>unR s L 0=(L.take i,i+s.length,0)
  | .error x=>x=22∧unR s L 0=([],0,22):=by
 unfold upP unR
 rw [if_pos rfl]
 cases ix s L with
 | none=>exact ⟨rfl,rfl⟩
 | some i=>rfl
theorem en_R {xs:List Nat} {k n e:Nat} {S:List Nat} (h:nmR (xs.drop k) 0=(S,n,e)):match enP (xs.drop k) with
  | .ok (t,m)=>t=⟨6,S,[],[],false⟩∧nK 62 xs (dR xs (k+n) e) e=k+m∧nE 62 xs (dR xs (k+n) e) e=0
  | .error x=>nE 62 xs (dR xs (k+n) e) e=x∧x≠0:=by
 unfold enP
 rcases hq:qnP (xs.drop k) with x | i
 ·have h1:=nmR_err hq
  rw [h] at h1
  simp only at h1
  subst h1
  have h2:=qnP_22 hq
  subst h2
  simp only
  exact ⟨nE_e (by decide),by decide⟩
 ·have h1:=nmR_ok hq
  rw [h] at h1
  injection h1 with h2 h3
  injection h3 with h3 h4
  subst h2 h3 h4
  simp only
  rw [dR_0]
  simp only [List.drop_drop]
  obtain ⟨s,hs⟩:∃ s,s=sk blaP (xs.drop (k+n)):=⟨_,rfl⟩
  rw [←hs,←Nat.add_assoc k n s]
  by_cases hp:[62] <+: xs.drop (k+n+s)
  ·rw [if_pos hp]
   exact ⟨rfl,by rw [nK_y hp];omega,nE_y hp⟩
  ·rw [if_neg hp]
   exact ⟨nE_n hp,by decide⟩
theorem rm_R {xs:List Nat} {k n e:Nat} {T:List Nat} (h:unR [45,45] (xs.drop k) 0=(T,n,e)):match rmP (xs.drop k) with
  | .ok (t,m)=>t=⟨3,[],T,[],false⟩∧nK 62 xs (k+n) e=k+m∧nE 62 xs (k+n) e=0
  | .error x=>nE 62 xs (k+n) e=x∧x≠0:=by
 unfold rmP
 have hu:=unR_up [45,45] (xs.drop k)
 rcases hq:upP [45,45] (xs.drop k) with x | i
 ·rw [hq] at hu
  simp only at hu
  rw [hu.2] at h
  injection h with h1 h2
  injection h2 with h2 h3
  subst h1 h2 h3
  rw [hu.1]
  simp only
  exact ⟨nE_e (by decide),by decide⟩
 ·rw [hq] at hu
  simp only at hu
  rw [hu] at h
  injection h with h1 h2
  injection h2 with h2 h3
  subst h1 h2 h3
  simp only [List.drop_drop]
  rw [show i+[45,45].length=i+2 from rfl]
  by_cases hp:[62] <+: xs.drop (k+(i+2))
  ·rw [if_pos hp]
   exact ⟨rfl,by rw [nK_y hp];omega,nE_y hp⟩
  ·rw [if_neg hp]
   exact ⟨nE_n hp,by decide⟩
theorem rw_R {xs:List Nat} {k n e:Nat} {T:List Nat} (h:unR [93,93,62] (xs.drop k) 0=(T,n,e)):match rwP (xs.drop k) with
  | .ok (t,m)=>t=⟨4,[],T,[],false⟩∧n=m∧e=0
  | .error x=>e=x∧x≠0:=by
 unfold rwP
 have hu:=unR_up [93,93,62] (xs.drop k)
 rcases hq:upP [93,93,62] (xs.drop k) with x | i
 ·rw [hq] at hu
  simp only at hu
  rw [hu.2] at h
  injection h with h1 h2
  injection h2 with h2 h3
  rw [hu.1]
  exact ⟨h3.symm,by decide⟩
 ·rw [hq] at hu
  simp only at hu
  rw [hu] at h
  injection h with h1 h2
  injection h2 with h2 h3
  subst h1 h2 h3
  exact ⟨rfl,rfl,rfl⟩
theorem qm_end {M:List Nat} (h:[63,62] <+: M):sk blaP M=0∧upP [63,62] M = .ok 0:=by
 obtain ⟨t,rfl⟩:=h
 refine ⟨sk_no ?_,?_⟩
 ·show blaP (nx (63::62::t)).1=false
  rw [nx_low (by decide)]
  decide +kernel
 ·have:ix [63,62] ([63,62]++t)=some 0:=ix_is (by simp) (by rw [List.drop_zero];exact ⟨t,rfl⟩) (fun j hj=>by omega)
  unfold upP
  rw [this]
theorem pi_R {xs:List Nat} {k n e1 e2:Nat} {S:List Nat} (h:wdR (xs.drop k) 0=(S,n,e1)) (h2:e2=if e1=0∧S.map low=[120,109,108] then 22 else e1) :
  (e2=0∧[63,62] <+: xs.drop (k+n)→piP (xs.drop k) = .ok (⟨2,S,[],[],false⟩,n+2))∧
  (¬(e2=0∧[63,62] <+: xs.drop (k+n))→∀ b e3 T m e4,b=(if e2=0 then sk blaP (xs.drop (k+n)) else 0)→e3=(if b=0∧e2=0 then 22 else e2)→unR [63,62] (xs.drop (k+n+b)) e3=(T,m,e4)→
   match piP (xs.drop k) with
   | .ok (t,mm)=>t=⟨2,S,T,[],false⟩∧n+b+m=mm∧e4=0
   | .error x=>e4=x∧x≠0):=by
 have bad:e2=22→piP (xs.drop k) = .error 22→_:=fun he hp=>(show
  (e2=0∧[63,62] <+: xs.drop (k+n)→piP (xs.drop k) = .ok (⟨2,S,[],[],false⟩,n+2))∧
  (¬(e2=0∧[63,62] <+: xs.drop (k+n))→∀ b e3 T m e4,b=(if e2=0 then sk blaP (xs.drop (k+n)) else 0)→e3=(if b=0∧e2=0 then 22 else e2)→unR [63,62] (xs.drop (k+n+b)) e3=(T,m,e4)→
   match piP (xs.drop k) with
   | .ok (t,mm)=>t=⟨2,S,T,[],false⟩∧n+b+m=mm∧e4=0
   | .error x=>e4=x∧x≠0) from by
  refine ⟨fun h=>by omega,fun _ b e3 T m e4 hb h3 hu=>?_⟩
  rw [if_neg (fun h=>by omega)] at h3
  rw [unR_e (by omega)] at hu
  injection hu with _ hu
  injection hu with _ hu
  rw [hp]
  simp only
  exact ⟨by omega,by decide⟩)
 unfold wdR at h
 rw [if_pos rfl] at h
 rcases hq:nmP (xs.drop k) with x | i
 ·rw [hq] at h
  simp only at h
  have hx:=nmP_22 hq
  subst hx
  injection h with h1 h3
  injection h3 with h3 h4
  refine bad (by rw [h2,←h4];rfl) ?_
  unfold piP
  rw [hq]
 ·rw [hq] at h
  simp only at h
  injection h with h1 h3
  injection h3 with h3 h4
  subst h1 h3 h4
  by_cases hx:((xs.drop k).take i).map low=[120,109,108]
  ·refine bad (by rw [h2,if_pos ⟨rfl,hx⟩]) ?_
   unfold piP
   rw [hq]
   simp only
   rw [if_pos hx]
  ·rw [if_neg (fun h=>hx h.2)] at h2
   subst h2
   unfold piP
   rw [hq]
   simp only
   rw [if_neg hx]
   simp only [List.drop_drop]
   constructor
   ·rintro ⟨_,hp⟩
    obtain ⟨q1,q2⟩:=qm_end hp
    rw [if_neg (fun h=>h.2 hp),q1,Nat.add_zero,q2]
    rfl
   ·intro hn b e3 T m e4 hb h3 hu
    have hp:¬[63,62] <+: xs.drop (k+i):=fun h=>hn ⟨by trivial,h⟩
    rw [if_pos (by trivial)] at hb
    by_cases h0:sk blaP (xs.drop (k+i))=0
    ·rw [if_pos ⟨h0,hp⟩]
     rw [if_pos ⟨by omega,by trivial⟩] at h3
     subst h3
     rw [unR_e (by decide)] at hu
     injection hu with _ hu
     injection hu with _ hu
     exact ⟨hu.symm,by decide⟩
    ·rw [if_neg (fun h=>h0 h.1),←hb]
     rw [if_neg (fun h=>by omega)] at h3
     subst h3
     have hu2:=unR_up [63,62] (xs.drop (k+i+b))
     rw [←Nat.add_assoc k i b]
     rcases hq2:upP [63,62] (xs.drop (k+i+b)) with x | j
     ·rw [hq2] at hu2
      simp only at hu2
      rw [hu2.2] at hu
      injection hu with _ hu
      injection hu with _ hu
      rw [hu2.1]
      exact ⟨hu.symm,by decide⟩
     ·rw [hq2] at hu2
      simp only at hu2
      rw [hu2] at hu
      injection hu with h5 hu
      injection hu with h6 h7
      subst h5 h6 h7
      exact ⟨rfl,by simp;omega,rfl⟩
theorem plus_to {r:Except Nat (Tk × Nat)} {d fr k er kk:Nat} {S T:List Nat} (h:match r with
  | .ok (t,n)=>t=⟨kk,S,T,[],false⟩∧k=fr+d+n∧er=0
  | .error x=>er=x∧x≠0):match plus d r with
  | .ok (t,n)=>t=⟨kk,S,T,[],false⟩∧k=fr+n∧er=0
  | .error x=>er=x∧x≠0:=by
 rcases r with x | ⟨t,n⟩
 ·exact h
 ·exact ⟨h.1,by have:=h.2.1;omega,h.2.2⟩
def arR (L:List Nat) (er:Nat):Except Nat (List At × Nat):=if er=0 then raA [] L else .error er
theorem arR_0 (L:List Nat):arR L 0=raA [] L:=if_pos rfl
theorem arR_e {L:List Nat} {e:Nat} (h:e≠0):arR L e = .error e:=if_neg h
theorem dR_ge (xs:List Nat) (k e:Nat):k≤dR xs k e:=by unfold dR;omega
theorem bg_R {xs:List Nat} {k n e1:Nat} {S:List Nat} (hb:Bs xs) (h:nmR (xs.drop k) 0=(S,n,e1)):match arR (xs.drop (k+n)) e1 with
  | .error x=>bgP (xs.drop k) = .error x
  | .ok (l,m)=>e1=0∧∀ kb,kb=dR xs (k+n+m) 0→k+n+m≤kb∧([47,62] <+: xs.drop kb→bgP (xs.drop k) = .ok (⟨5,S,[],l,true⟩,kb+2-k))∧
   (¬[47,62] <+: xs.drop kb→[62] <+: xs.drop kb→bgP (xs.drop k) = .ok (⟨5,S,[],l,false⟩,kb+1-k))∧
   (¬[47,62] <+: xs.drop kb→¬[62] <+: xs.drop kb→bgP (xs.drop k) = .error 22):=by
 rw [←bgR_is (hb.drop k)]
 unfold bgR
 rcases hq:qnP (xs.drop k) with x | i
 ·have h1:=nmR_err hq
  rw [h] at h1
  simp only at h1
  subst h1
  have h2:=qnP_22 hq
  subst h2
  rw [arR_e (by decide)]
 ·have h1:=nmR_ok hq
  rw [h] at h1
  injection h1 with h2 h3
  injection h3 with h3 h4
  subst h2 h3 h4
  simp only
  rw [arR_0,List.drop_drop]
  rcases raA [] (xs.drop (k+n)) with x | ⟨l,m⟩
  ·rfl
  ·simp only
   refine ⟨by trivial,fun kb hkb=>?_⟩
   have hge:=dR_ge xs (k+n+m) 0
   rw [dR_0] at hkb
   simp only [List.drop_drop]
   rw [show k+(n+m)=k+n+m by omega]
   rw [show k+(n+m+sk blaP (xs.drop (k+n+m)))=kb by omega]
   refine ⟨by omega,fun h47=>?_,fun h47 h62=>?_,fun h47 h62=>?_⟩
   ·rw [if_pos h47];congr 2;omega
   ·rw [if_neg h47,if_pos h62];congr 2;omega
   ·rw [if_neg h47,if_neg h62]
theorem dc_R {xs:List Nat} {k:Nat} (hb:Bs xs):match raA [] (xs.drop k) with
  | .error x=>dcP (xs.drop k) = .error x
  | .ok (l,m)=>∀ kb,kb=dR xs (k+m) 0→k+m≤kb∧([63,62] <+: xs.drop kb→dcP (xs.drop k)=match mdP l with
    | some e => .error e
    | none => .ok (⟨1,[],[],l,false⟩,kb+2-k))∧
   (¬[63,62] <+: xs.drop kb→dcP (xs.drop k) = .error 22):=by
 rw [←dcR_is (hb.drop k)]
 unfold dcR
 rcases raA [] (xs.drop k) with x | ⟨l,m⟩
 ·rfl
 ·simp only
  intro kb hkb
  have hge:=dR_ge xs (k+m) 0
  rw [dR_0] at hkb
  simp only [List.drop_drop]
  rw [show k+(m+sk blaP (xs.drop (k+m)))=kb by omega]
  refine ⟨by omega,fun h=>?_,fun h=>?_⟩
  ·rw [if_pos h]
   cases mdP l with
   | some e=>rfl
   | none=>simp only;congr 2;omega
  ·rw [if_neg h]
theorem wdN_no (L:List Nat):60∉L.take (wdN L):=by
 unfold wdN
 rcases h:ix [60] L with _ | i
 ·simp only;rw [List.take_length];exact ix1_none.1 h
 ·exact (ix1_some h).2.1
theorem wd_R (L:List Nat):wdP L=if (ix [93,93,62] (L.take (wdN L))).isSome=true then .error 22 else match tr false (L.take (wdN L)) with
  | none => .error 22
  | some v => .ok (⟨4,[],v,[],false⟩,wdN L):=by
 unfold wdP
 rw [tr_is,fl_false,if_neg (wdN_no L)]
 rfl
theorem wdN_in {xs:List Nat} {k j:Nat} (h1:k≤j) (h2:j<k+wdN (xs.drop k)):j<xs.length∧xs.getD j 0≠60:=by
 have hle:=wdN_le (xs.drop k)
 rw [List.length_drop] at hle
 have hj:j<xs.length:=by omega
 refine ⟨hj,fun e=>wdN_no (xs.drop k) ?_⟩
 have h3:((xs.drop k).take (wdN (xs.drop k)))[j-k]? = some 60:=by
  rw [List.getElem?_take_of_lt (by omega),List.getElem?_drop,show k+(j-k)=j by omega]
  rw [←e,List.getD_eq_getElem?_getD,List.getElem?_eq_getElem hj]
  rfl
 exact List.mem_of_getElem? h3
theorem wdN_end {xs:List Nat} {k:Nat} (h:k+wdN (xs.drop k)<xs.length):xs.getD (k+wdN (xs.drop k)) 0=60:=by
 unfold wdN at h ⊢
 rcases hi:ix [60] (xs.drop k) with _ | i
 ·rw [hi] at h
  simp only [List.length_drop] at h
  omega
 ·simp only
  have h3:=(ix1_some hi).2.2
  rw [List.getD_eq_getElem?_getD,List.getElem?_drop] at h3
  rw [List.getD_eq_getElem?_getD]
  exact h3
theorem isDc_is {xs:List Nat} (hb:Bs xs):isDc true xs↔5<xs.length∧[60,63,120,109,108] <+: xs∧blaP (xs.getD 5 0)=true:=by
 unfold isDc
 by_cases h5:5<xs.length
 ·have hd:=drop_cons h5
  have hbd:=hb.drop 5
  rw [hd] at hbd ⊢
  rw [(bla_head hbd).1]
  simp [h5]
 ·rw [List.drop_eq_nil_of_le (by omega)]
  constructor
  ·rintro ⟨_,_,h⟩
   rw [show blaP (nx []).1=false from by decide +kernel] at h
   cases h
  ·rintro ⟨h,_⟩
   exact absurd h h5
def RAtV (w:World) (B:Nat) (sv:Value) (l:List At):Prop:=∃ a cc,sv = .slice a l.length cc∧w.ownsRow B 60 2 (.slice a l.length cc) l.length (atc l)
theorem RAtV.nil (w:World) (B:Nat):RAtV w B (.slice none 0 0) []:=⟨none,0,rfl,World.ownsRow_nil _ _ _ _⟩
theorem RAtV.mono {w:World} {B B':Nat} {sv:Value} {l:List At} (h:RAtV w B sv l) (hB:B'≤B):RAtV w B' sv l:=by
 obtain ⟨a,cc,h1,h2⟩:=h
 exact ⟨a,cc,h1,World.ownsRow.mono h2 hB⟩
theorem RAtV.touch {S:Nat→Prop} {w w':World} {B:Nat} {sv:Value} {l:List At} (h:RAtV w B sv l) (ht:Touch S w w') (hS:∀ i,S i→i<B):RAtV w' B sv l:=by
 obtain ⟨a,cc,h1,h2⟩:=h
 subst h1
 exact ⟨a,cc,rfl,ownsRow_touch h2 ht fun i hi he=>by have:=h2.lt i hi;have:=hS i he;omega⟩
theorem qattrs (w:World) (p:Nat) (xs:List Nat) (k fr er:Nat) (h:Rq w p xs k fr er) :
  Calls Tryz.prog 54 #[.pointer (some ⟨p,0,none⟩)] w (RaTo p xs k fr (arR (xs.drop k) er) w):=by
 by_cases he:er=0
 ·subst he
  rw [arR_0]
  exact qattrs_ok w p xs k fr h
 ·rw [arR_e he]
  refine (qattrs_err w p xs k fr er he h).mono ?_
  rintro e w' ⟨h1,h2,h3⟩
  exact ⟨h2,h1,he,_,h3⟩
def RkTo (p:Nat) (xs:List Nat) (k:Nat) (r:Except Nat (Tk × Nat)) (w:World) (e:Ending) (w':World):Prop:=
 Touch (fun i=>i=p) w w'∧match r with
  | .error x=>(∃ (i0:Int) (s1 s2:ByteArray) (a:Option Addr) (n c:Nat) (b:Bool) (i5:Int),e = .returned (.agg #[.int .i64 i0,.string s1,.string s2,.slice a n c,.bool b,.int .i64 i5]))∧x≠0∧∃ k',Rq w' p xs k' k x
  | .ok (t,n)=>∃ sv,e = .returned (.agg (tkc t sv (k:Nat)))∧RAtV w' w.heap.size sv t.a∧Rq w' p xs (k+n) k 0∧t.a.length≤256
structure Rr (w W:World) (p:Nat) (xs:List Nat) (fr k er:Nat) (cs:Array Value):Prop where
 tch:Touch (fun i=>i=p) w W
 rq:Rq W p xs k fr er
 b0:Blk W w.heap.size 58 z44
 b1:Blk W (w.heap.size+1) 58 cs
 lt:p<w.heap.size
section
variable {w W W':World} {p:Nat} {xs:List Nat} {fr k k' er er':Nat} {cs:Array Value} {x0 x1 x2 x3 x4 x5:Value}
theorem Rr.step (h:Rr w W p xs fr k er cs) (ht:Touch (fun i=>i=p) W W') (hs:Rq W' p xs k' fr er'):Rr w W' p xs fr k' er' cs:=
 ⟨h.tch.trans ht,hs,h.b0.touch ht (by have:=h.lt;omega),h.b1.touch ht (by have:=h.lt;omega),h.lt⟩
theorem Rr.below (h:Rr w W p xs fr k er cs) (hb:Below W.heap.size W W'):Rr w W' p xs fr k er cs:=h.step (Touch.of_below hb) (h.rq.below hb)
theorem Rr.drew (h:Rr w W p xs fr k er cs) (q:Nat):Rr w (W.drewN q) p xs fr k er cs:=h.below (below_drewN (Below.refl _ W) q)
theorem Rr.set (h:Rr w W p xs fr k er cs) (i:Nat) (v:Value):Rr w (W.setCell ⟨w.heap.size+1,i,none⟩ v) p xs fr k er (cs.setIfInBounds i v):=
 ⟨h.tch.setCell ⟨w.heap.size+1,i,none⟩ v (.inr (Nat.le_succ _)),h.rq.touch (touch_set (w.heap.size+1) i W v) (by have:=h.lt;omega),h.b0.other (g':=w.heap.size+1) i v (by omega),h.b1.setCell i v,h.lt⟩
theorem Rr.ce (h:Rr w W p xs fr k er #[x0,x1,x2,x3,x4,x5]):W.cell? ⟨w.heap.size+1,0,none⟩=some x0∧W.cell? ⟨w.heap.size+1,1,none⟩=some x1∧W.cell? ⟨w.heap.size+1,2,none⟩=some x2∧W.cell? ⟨w.heap.size+1,3,none⟩=some x3∧W.cell? ⟨w.heap.size+1,4,none⟩=some x4∧W.cell? ⟨w.heap.size+1,5,none⟩=some x5:=
 ⟨(h.b1.cell 0).trans rfl,(h.b1.cell 1).trans rfl,(h.b1.cell 2).trans rfl,(h.b1.cell 3).trans rfl,(h.b1.cell 4).trans rfl,(h.b1.cell 5).trans rfl⟩
theorem Rr.fr6 (h:Rr w W p xs fr k er cs):W.frozen? ⟨w.heap.size+1,0,none⟩=false∧W.frozen? ⟨w.heap.size+1,1,none⟩=false∧W.frozen? ⟨w.heap.size+1,2,none⟩=false∧W.frozen? ⟨w.heap.size+1,3,none⟩=false∧W.frozen? ⟨w.heap.size+1,4,none⟩=false∧W.frozen? ⟨w.heap.size+1,5,none⟩=false:=
 ⟨h.b1.free 0,h.b1.free 1,h.b1.free 2,h.b1.free 3,h.b1.free 4,h.b1.free 5⟩
theorem Rr.ce0 (h:Rr w W p xs fr k er cs):W.cell? ⟨w.heap.size,0,none⟩=some (.int .i64 0)∧W.cell? ⟨w.heap.size,1,none⟩=some (.string ⟨#[]⟩)∧W.cell? ⟨w.heap.size,2,none⟩=some (.string ⟨#[]⟩)∧W.cell? ⟨w.heap.size,3,none⟩=some (.slice none 0 0)∧W.cell? ⟨w.heap.size,4,none⟩=some (.bool false)∧W.cell? ⟨w.heap.size,5,none⟩=some (.int .i64 0):=
 ⟨(h.b0.cell 0).trans rfl,(h.b0.cell 1).trans rfl,(h.b0.cell 2).trans rfl,(h.b0.cell 3).trans rfl,(h.b0.cell 4).trans rfl,(h.b0.cell 5).trans rfl⟩
theorem Rr.fr0 (h:Rr w W p xs fr k er cs):W.frozen? ⟨w.heap.size,0,none⟩=false∧W.frozen? ⟨w.heap.size,1,none⟩=false∧W.frozen? ⟨w.heap.size,2,none⟩=false∧W.frozen? ⟨w.heap.size,3,none⟩=false∧W.frozen? ⟨w.heap.size,4,none⟩=false∧W.frozen? ⟨w.heap.size,5,none⟩=false:=
 ⟨h.b0.free 0,h.b0.free 1,h.b0.free 2,h.b0.free 3,h.b0.free 4,h.b0.free 5⟩
theorem st6_any {q:Nat} {ty:TypeId} {y0 y1 y2 y3 y4 y5:Value} (h:Blk W q ty #[y0,y1,y2,y3,y4,y5]) (x0 x1 x2 x3 x4 x5:Value):Blk (st6 W q x0 x1 x2 x3 x4 x5) q ty #[x0,x1,x2,x3,x4,x5]:=
 (((((h.setCell 0 x0).setCell 1 x1).setCell 2 x2).setCell 3 x3).setCell 4 x4).setCell 5 x5
theorem Rr.no (h:Rr w W p xs fr k er cs) (he:er≠0) {i0 i5:Int} {s1 s2:ByteArray} {a:Option Addr} {n c:Nat} {b:Bool}:RkTo p xs fr (.error er) w (.returned (.agg #[.int .i64 i0,.string s1,.string s2,.slice a n c,.bool b,.int .i64 i5])) (st6 W w.heap.size (.int .i64 i0) (.string s1) (.string s2) (.slice a n c) (.bool b) (.int .i64 i5)):=by
 have ht:=st6_touch W w.heap.size (.int .i64 i0) (.string s1) (.string s2) (.slice a n c) (.bool b) (.int .i64 i5)
 exact ⟨h.tch.trans' ht fun i hi hlt=>by omega,⟨_,_,_,_,_,_,_,_,rfl⟩,he,k,h.rq.touch ht (by have:=h.lt;omega)⟩
theorem Rr.yes (h:Rr w W p xs fr k 0 cs) (t:Tk) (n:Nat) (sv:Value) (hk:k=fr+n) (ha:RAtV W (w.heap.size+1) sv t.a) (hl:t.a.length≤256) :
  RkTo p xs fr (.ok (t,n)) w (.returned (.agg (tkc t sv (fr:Nat)))) (st6 W w.heap.size (.int .i64 (t.k:Nat)) (.string (txt t.n)) (.string (txt t.t)) sv (.bool t.e) (.int .i64 (fr:Nat))):=by
 subst hk
 have ht:=st6_touch W w.heap.size (.int .i64 (t.k:Nat)) (.string (txt t.n)) (.string (txt t.t)) sv (.bool t.e) (.int .i64 (fr:Nat))
 exact ⟨h.tch.trans' ht fun i hi hlt=>by omega,sv,rfl,(ha.touch ht fun i hi=>by omega).mono (Nat.le_succ _),h.rq.touch ht (by have:=h.lt;omega),hl⟩
theorem Rr.end_ {r:Except Nat (Tk × Nat)} (h:Rr w W p xs fr k er cs) (kk:Nat) (S T:List Nat) (hr:match r with
  | .ok (t,n)=>t=⟨kk,S,T,[],false⟩∧k=fr+n∧er=0
  | .error x=>er=x∧x≠0) :
  RkTo p xs fr r w (.returned (.agg #[.int .i64 (kk:Nat),.string (txt S),.string (txt T),.slice none 0 0,.bool false,.int .i64 (fr:Nat)])) (st6 W w.heap.size (.int .i64 (kk:Nat)) (.string (txt S)) (.string (txt T)) (.slice none 0 0) (.bool false) (.int .i64 (fr:Nat))):=by
 rcases r with x | ⟨t,n⟩
 ·obtain ⟨h1,h2⟩:=hr
  subst h1
  exact h.no h2
 ·obtain ⟨h1,h2,h3⟩:=hr
  subst h1 h3
  exact h.yes ⟨kk,S,T,[],false⟩ n _ h2 (RAtV.nil _ _) (by simp)
end
theorem res25 {t:Array Value} {W:World} {q:Nat} {x0 x1 x2 x3 x4 x5:Value} (h2:t[2]? = some (.pointer (some ⟨q,0,none⟩))) (h:Blk W q 58 #[x0,x1,x2,x3,x4,x5]) :
  (results Tryz.f25 t).run Tryz.prog W = .ok (.agg #[x0,x1,x2,x3,x4,x5]) W:=by
 have e0:=(h.cell 0).trans (show _=some x0 from rfl)
 have e1:=(h.cell 1).trans (show _=some x1 from rfl)
 have e2:=(h.cell 2).trans (show _=some x2 from rfl)
 have e3:=(h.cell 3).trans (show _=some x3 from rfl)
 have e4:=(h.cell 4).trans (show _=some x4 from rfl)
 have e5:=(h.cell 5).trans (show _=some x5 from rfl)
 simp [results,Tryz.results25,h2,go_sem,e0,e1,e2,e3,e4,e5]
theorem res45 {t:Array Value} {W:World} {q:Nat} {x0 x1 x2 x3 x4 x5:Value} (h2:t[2]? = some (.pointer (some ⟨q,0,none⟩))) (h:Blk W q 58 #[x0,x1,x2,x3,x4,x5]) :
  (results Tryz.f45 t).run Tryz.prog W = .ok (.agg #[x0,x1,x2,x3,x4,x5]) W:=by
 have e0:=(h.cell 0).trans (show _=some x0 from rfl)
 have e1:=(h.cell 1).trans (show _=some x1 from rfl)
 have e2:=(h.cell 2).trans (show _=some x2 from rfl)
 have e3:=(h.cell 3).trans (show _=some x3 from rfl)
 have e4:=(h.cell 4).trans (show _=some x4 from rfl)
 have e5:=(h.cell 5).trans (show _=some x5 from rfl)
 simp [results,Tryz.results45,h2,go_sem,e0,e1,e2,e3,e4,e5]
theorem gen_w0 {c:Code} {Q:Exit→Act→World→Prop} {a:Act} {W:World} (h:∀ W',W'=W→c.wp Tryz.prog Q a W'):c.wp Tryz.prog Q a W:=h W rfl
theorem Rr.begin {w:World} {p:Nat} {xs:List Nat} {k fr pl:Nat} (h:Rp w p xs k fr 0 pl) :
  Rr w (((w.alloc (.cells z44 58)).setCell ⟨p,2,none⟩ (.int .i64 (k:Nat))).alloc (.cells #[.int .i64 0,.string ⟨#[]⟩,.string ⟨#[]⟩,.slice none 0 0,.bool false,.int .i64 (k:Nat)] 58)) p xs k k 0 #[.int .i64 0,.string ⟨#[]⟩,.string ⟨#[]⟩,.slice none 0 0,.bool false,.int .i64 (k:Nat)]:=by
 have hl:=h.blk.lt
 have a1:=lit_below w (.cells z44 58)
 have b0:=Blk.made w 58 z44
 have h1:=h.below a1
 have h2:Rp ((w.alloc (.cells z44 58)).setCell ⟨p,2,none⟩ (.int .i64 (k:Nat))) p xs k k 0 pl:=⟨h1.blk.setCell 2 _,h.bs,h.le,h.len⟩
 have a2:=lit_below ((w.alloc (.cells z44 58)).setCell ⟨p,2,none⟩ (.int .i64 (k:Nat))) (.cells #[.int .i64 0,.string ⟨#[]⟩,.string ⟨#[]⟩,.slice none 0 0,.bool false,.int .i64 (k:Nat)] 58)
 have b1:=Blk.made ((w.alloc (.cells z44 58)).setCell ⟨p,2,none⟩ (.int .i64 (k:Nat))) 58 #[.int .i64 0,.string ⟨#[]⟩,.string ⟨#[]⟩,.slice none 0 0,.bool false,.int .i64 (k:Nat)]
 have hz:((w.alloc (.cells z44 58)).setCell ⟨p,2,none⟩ (.int .i64 (k:Nat))).heap.size=w.heap.size+1:=by simp
 rw [hz] at b1
 exact ⟨((Touch.of_below a1).trans (touch_set p 2 _ _)).trans (Touch.of_below a2),⟨pl,h2.below a2,fun h=>absurd rfl h⟩,(b0.other (g':=p) 2 _ (by omega)).below a2,b1,hl⟩
set_option maxHeartbeats 6400000 in
theorem rtoken_1 (w:World) (p:Nat) (xs:List Nat) (k fr pl:Nat) (h:Rp w p xs k fr 0 pl) (hd:¬isDc (k == 0) (xs.drop k)) (h0:¬[60,63] <+: xs.drop k) (hy:[60,33,45,45] <+: xs.drop k) :
  Calls Tryz.prog 25 #[.pointer (some ⟨p,0,none⟩)] w (RkTo p xs k (plus 4 (rmP ((xs.drop k).drop 4))) w):=by
 rw [List.drop_drop]
 have HBS:=Lib.hid h.bs
 have hlen:=h.len
 have hkl:=h.le
 have RB:=Lib.hid (Rr.begin h)
 obtain ⟨S,hS⟩:∃ S,S=txt xs:=⟨_,rfl⟩
 have HSS:=Lib.hid hS
 have hSz:S.size=xs.length:=by rw [hS];exact txt_size xs
 have HGET:Hid (∀ i (h:i<S.size),((S[i]'h).toNat)=xs.getD i 0):=Lib.hid fun i h=>by subst hS;exact txt_get xs HBS.out i _
 have HEX:=Lib.hid fun i j=>txt_extract xs i j
 rw [←hS] at HEX
 have KBL:=Lib.hid fun (v:Nat) W=>rBlank_any (v:Int) W
 obtain ⟨DC,hDC⟩:∃ DC,DC=decide (isDc (k == 0) (xs.drop k)):=⟨_,rfl⟩
 have HDC:=Lib.hid hDC
 have hA:=h.below (lit_below w (.cells z44 58))
 have a1:=hA.c1
 have a2:=hA.c2
 have g2:=hA.blk.free 2
 clear hS hDC hA
 go_enter Tryz.func25,Tryz.ntmps25
 go_upto_region 10 with fail
 refine gen_w0 fun W0 hW0=>?_
 have R0:Hid (Rr w W0 p xs k k 0 #[.int .i64 0,.string ⟨#[]⟩,.string ⟨#[]⟩,.slice none 0 0,.bool false,.int .i64 (k:Nat)]):=Lib.hid (by rw [hW0];exact RB.out)
 have c0:=R0.out.rq.c0
 rw [←HSS.out] at c0
 have c1:=R0.out.rq.c1
 clear hW0 RB a1 a2 g2
 go_cut [87] from 88 to 117 (fun s87 wx=>s87 = .bool DC∧wx=W0)
 case first=>
  by_cases hk:k=0
  ·subst hk
   have HD:Hid (DC=true↔5<xs.length∧[60,63,120,109,108] <+: xs∧blaP (xs.getD 5 0)=true):=Lib.hid (by rw [HDC.out,decide_eq_true_iff];exact isDc_is HBS.out)
   by_cases h5:5<xs.length
   ·have h5I:(5:Int)<S.size:=by rw [hSz];omega
    have hsl:∀ W,(Instr.slice 9 (.string S) none (some (.int .i64 5)) none).run Tryz.prog W = .ok (.string (S.extract 0 5)) W:=fun W=>by
     have h4:(5:Int)≤S.size:=by omega
     simp [go_sem,h4]
    have hpc:S.extract 0 5=txt (xs.take 5):=by rw [HEX.out];rfl
    by_cases hp:[60,63,120,109,108] <+: xs
    ·have ht5:xs.take 5=[60,63,120,109,108]:=(List.prefix_iff_eq_take.1 hp).symm
     have h5n:5<S.size:=by rw [hSz];exact h5
     obtain ⟨x,hx⟩:∃ x:UInt8,S[5]'h5n=x:=⟨_,rfl⟩
     have hxn:xs.getD 5 0=x.toNat:=by rw [←hx];exact (HGET.out 5 h5n).symm
     have hx256:=x.toNat_lt
     rw [hpc,ht5,show txt [60,63,120,109,108]=⟨#[60,63,120,109,108]⟩ from rfl] at hsl
     rw [hxn] at HD
     have KB2:=KBL.out x.toNat
     rw [show wth blankL (x.toNat:Int)=blaP x.toNat from rfl] at KB2
     obtain ⟨bb,hbb⟩:∃ b,b=blaP x.toNat:=⟨_,rfl⟩
     rw [←hbb] at KB2 HD
     have KB2:=Lib.hid KB2
     clear hbb hpc ht5 hxn
     go_wp2_with (go_at_call 44;(with_reducible refine (KB2.out _).mono ?_);rintro e w1 ⟨rfl,rfl⟩)
     go_meet
     case rel=>exact ⟨by
      have h1:=HD.out
      cases DC <;> cases bb <;> simp [h5,hp] at h1 ⊢,rfl⟩
    ·have hne:(S.extract 0 5).toList≠[60,63,120,109,108]:=by
      rw [hpc,txt_toList]
      intro e
      have:=u8L_inj (HBS.out.take 5) (bsl [60,63,120,109,108] rfl) e
      exact hp (List.prefix_iff_eq_take.2 this.symm)
     obtain ⟨PC,hPC⟩:∃ PC,PC=S.extract 0 5:=⟨_,rfl⟩
     rw [←hPC] at hsl hne
     have hne2:(PC.toList == [60,63,120,109,108])=false:=beq_eq_false_iff_ne.2 hne
     clear hpc hPC
     go_wp2
     go_meet
     case rel=>exact ⟨by
      have h1:=HD.out
      cases DC <;> simp [hp] at h1 ⊢,rfl⟩
   ·have h5I:¬(5:Int)<S.size:=by rw [hSz];omega
    go_wp2
    go_meet
    case rel=>exact ⟨by
     have h1:=HD.out
     cases DC <;> simp [h5] at h1 ⊢,rfl⟩
  ·have hkI:((k:Int) == 0)=false:=beq_eq_false_iff_ne.2 (by omega)
   have hkI2:¬(k:Int)=0:=by omega
   go_wp2
   go_meet
   case rel=>exact ⟨by
    have:DC=false:=by rw [HDC.out];exact decide_eq_false (fun e=>hk (by simpa using e.1))
    rw [this],rfl⟩
 case rest=>
  obtain ⟨rfl,hwc⟩:=hcut
  have hwc:=hwc.symm
  subst hwc
  obtain rfl:DC=false:=by rw [HDC.out];exact decide_eq_false hd
  clear c0 c1
  have hyl:=pre_le (by simp) hy
  obtain ⟨k2,hk2⟩:∃ k2,k2=k+4:=⟨_,rfl⟩
  have N0:Hid (∀ W,Rq W p xs k k 0→Calls Tryz.prog 46 #[.pointer (some ⟨p,0,none⟩),.string ⟨#[60,63]⟩] W (Rs p xs k (.bool false) k 0 W)):=Lib.hid fun W hW=>by
   have:=qhas W p xs k k 0 [60,63] ⟨#[60,63]⟩ rfl (bsl _ rfl) (by simp) hW
   rwa [if_neg (fun e=>h0 e.2),decide_eq_false (fun e=>h0 e.2)] at this
  have Y:Hid (∀ W,Rq W p xs k k 0→Calls Tryz.prog 46 #[.pointer (some ⟨p,0,none⟩),.string ⟨#[60,33,45,45]⟩] W (Rs p xs k (.bool true) k2 0 W)):=Lib.hid fun W hW=>by
   have:=qhas W p xs k k 0 [60,33,45,45] ⟨#[60,33,45,45]⟩ rfl (bsl _ rfl) (by simp) hW
   rw [if_pos ⟨rfl,hy⟩,decide_eq_true (show 0=0∧[60,33,45,45] <+: xs.drop k from ⟨rfl,hy⟩)] at this
   rw [hk2];exact this
  have HK2:=Lib.hid hk2
  obtain ⟨⟨T,n,e⟩,hU⟩:∃ x,x=unR [45,45] (xs.drop k2) 0:=⟨_,rfl⟩
  have HR:=Lib.hid (rm_R hU.symm)
  have KU:Hid (∀ W,Rq W p xs k2 k 0→Calls Tryz.prog 51 #[.pointer (some ⟨p,0,none⟩),.string ⟨#[45,45]⟩] W (Rs p xs k (.string (txt T)) (k2+n) e W)):=Lib.hid fun W hW=>by
   have:=quntil W p xs k2 k 0 [45,45] ⟨#[45,45]⟩ rfl (bsl _ rfl) (by simp) (by simp) hW
   rwa [←hU] at this
  have KN:Hid (∀ W,Rq W p xs (k2+n) k e→Calls Tryz.prog 52 #[.pointer (some ⟨p,0,none⟩),.string ⟨#[62]⟩] W (Rs p xs k (.tuple #[]) (nK 62 xs (k2+n) e) (nE 62 xs (k2+n) e) W)):=Lib.hid fun W hW=>qneed W p xs (k2+n) k e [62] ⟨#[62]⟩ rfl (bsl _ rfl) (by simp) hW
  obtain ⟨TT,hTT⟩:∃ TT,TT=txt T:=⟨_,rfl⟩
  rw [←hTT] at KU
  have HTT:=Lib.hid hTT
  generalize nK 62 xs (k2+n) e=k4 at KN HR
  generalize nE 62 xs (k2+n) e=e4 at KN HR
  clear h hy hyl hk2 h0 hd hU hTT
  go_wp2_with (first
   | (go_at_call 46;(with_reducible refine (N0.out _ R0.out.rq).mono ?_);rintro e w1 ⟨rfl,ht,hs⟩;have R1:=Lib.hid (R0.out.step ht hs);clear ht hs;obtain ⟨ca0,ca1,ca2,ca3,ca4,ca5⟩:=R1.out.ce;obtain ⟨cb0,cb1,cb2,cb3,cb4,cb5⟩:=R1.out.fr6)
   | (go_at_call 46;(with_reducible refine (Y.out _ R1.out.rq).mono ?_);rintro e w2 ⟨rfl,ht,hs⟩;have R2:=Lib.hid (R1.out.step ht hs);clear ht hs;obtain ⟨ca0,ca1,ca2,ca3,ca4,ca5⟩:=R2.out.ce;obtain ⟨cb0,cb1,cb2,cb3,cb4,cb5⟩:=R2.out.fr6)
   | (go_at_call 51;(with_reducible refine (KU.out _ (R2.out.set 0 (.int .i64 3)).rq).mono ?_);rintro e w3 ⟨rfl,ht,hs⟩;have R3:=Lib.hid ((R2.out.set 0 (.int .i64 3)).step ht hs);clear ht hs;obtain ⟨ca0,ca1,ca2,ca3,ca4,ca5⟩:=R3.out.ce;obtain ⟨cb0,cb1,cb2,cb3,cb4,cb5⟩:=R3.out.fr6)
   | (go_at_call 52;(with_reducible refine (KN.out _ (R3.out.set 2 (.string TT)).rq).mono ?_);rintro e w4 ⟨rfl,ht,hs⟩;have R4:=Lib.hid ((R3.out.set 2 (.string TT)).step ht hs);clear ht hs;obtain ⟨ca0,ca1,ca2,ca3,ca4,ca5⟩:=R4.out.ce;obtain ⟨cb0,cb1,cb2,cb3,cb4,cb5⟩:=R4.out.fr6;have hz0:=R4.out.ce0;obtain ⟨cz0,cz1,cz2,cz3,cz4,cz5⟩:=hz0;have hy0:=R4.out.fr0;obtain ⟨cy0,cy1,cy2,cy3,cy4,cy5⟩:=hy0))
  refine bodyPost_ret (res25 rfl (st6_any R4.out.b0 _ _ _ _ _ _)) rfl ?_
  rw [HTT.out,←HK2.out]
  refine R4.out.end_ 3 [] T (plus_to (d:=4) ?_)
  have hr:=HR.out
  have:=HK2.out
  generalize rmP (xs.drop k2)=RR at hr ⊢
  rcases RR with x | ⟨t,m⟩
  ·exact hr
  ·exact ⟨hr.1,by have:=hr.2.1;omega,hr.2.2⟩
set_option maxHeartbeats 6400000 in
theorem rtoken_2 (w:World) (p:Nat) (xs:List Nat) (k fr pl:Nat) (h:Rp w p xs k fr 0 pl) (hd:¬isDc (k == 0) (xs.drop k)) (h0:¬[60,63] <+: xs.drop k) (h1:¬[60,33,45,45] <+: xs.drop k) (hy:[60,33,91,67,68,65,84,65,91] <+: xs.drop k) :
  Calls Tryz.prog 25 #[.pointer (some ⟨p,0,none⟩)] w (RkTo p xs k (plus 9 (rwP ((xs.drop k).drop 9))) w):=by
 rw [List.drop_drop]
 have HBS:=Lib.hid h.bs
 have hlen:=h.len
 have hkl:=h.le
 have RB:=Lib.hid (Rr.begin h)
 obtain ⟨S,hS⟩:∃ S,S=txt xs:=⟨_,rfl⟩
 have HSS:=Lib.hid hS
 have hSz:S.size=xs.length:=by rw [hS];exact txt_size xs
 have HGET:Hid (∀ i (h:i<S.size),((S[i]'h).toNat)=xs.getD i 0):=Lib.hid fun i h=>by subst hS;exact txt_get xs HBS.out i _
 have HEX:=Lib.hid fun i j=>txt_extract xs i j
 rw [←hS] at HEX
 have KBL:=Lib.hid fun (v:Nat) W=>rBlank_any (v:Int) W
 obtain ⟨DC,hDC⟩:∃ DC,DC=decide (isDc (k == 0) (xs.drop k)):=⟨_,rfl⟩
 have HDC:=Lib.hid hDC
 have hA:=h.below (lit_below w (.cells z44 58))
 have a1:=hA.c1
 have a2:=hA.c2
 have g2:=hA.blk.free 2
 clear hS hDC hA
 go_enter Tryz.func25,Tryz.ntmps25
 go_upto_region 10 with fail
 refine gen_w0 fun W0 hW0=>?_
 have R0:Hid (Rr w W0 p xs k k 0 #[.int .i64 0,.string ⟨#[]⟩,.string ⟨#[]⟩,.slice none 0 0,.bool false,.int .i64 (k:Nat)]):=Lib.hid (by rw [hW0];exact RB.out)
 have c0:=R0.out.rq.c0
 rw [←HSS.out] at c0
 have c1:=R0.out.rq.c1
 clear hW0 RB a1 a2 g2
 go_cut [87] from 88 to 117 (fun s87 wx=>s87 = .bool DC∧wx=W0)
 case first=>
  by_cases hk:k=0
  ·subst hk
   have HD:Hid (DC=true↔5<xs.length∧[60,63,120,109,108] <+: xs∧blaP (xs.getD 5 0)=true):=Lib.hid (by rw [HDC.out,decide_eq_true_iff];exact isDc_is HBS.out)
   by_cases h5:5<xs.length
   ·have h5I:(5:Int)<S.size:=by rw [hSz];omega
    have hsl:∀ W,(Instr.slice 9 (.string S) none (some (.int .i64 5)) none).run Tryz.prog W = .ok (.string (S.extract 0 5)) W:=fun W=>by
     have h4:(5:Int)≤S.size:=by omega
     simp [go_sem,h4]
    have hpc:S.extract 0 5=txt (xs.take 5):=by rw [HEX.out];rfl
    by_cases hp:[60,63,120,109,108] <+: xs
    ·have ht5:xs.take 5=[60,63,120,109,108]:=(List.prefix_iff_eq_take.1 hp).symm
     have h5n:5<S.size:=by rw [hSz];exact h5
     obtain ⟨x,hx⟩:∃ x:UInt8,S[5]'h5n=x:=⟨_,rfl⟩
     have hxn:xs.getD 5 0=x.toNat:=by rw [←hx];exact (HGET.out 5 h5n).symm
     have hx256:=x.toNat_lt
     rw [hpc,ht5,show txt [60,63,120,109,108]=⟨#[60,63,120,109,108]⟩ from rfl] at hsl
     rw [hxn] at HD
     have KB2:=KBL.out x.toNat
     rw [show wth blankL (x.toNat:Int)=blaP x.toNat from rfl] at KB2
     obtain ⟨bb,hbb⟩:∃ b,b=blaP x.toNat:=⟨_,rfl⟩
     rw [←hbb] at KB2 HD
     have KB2:=Lib.hid KB2
     clear hbb hpc ht5 hxn
     go_wp2_with (go_at_call 44;(with_reducible refine (KB2.out _).mono ?_);rintro e w1 ⟨rfl,rfl⟩)
     go_meet
     case rel=>exact ⟨by
      have h1:=HD.out
      cases DC <;> cases bb <;> simp [h5,hp] at h1 ⊢,rfl⟩
    ·have hne:(S.extract 0 5).toList≠[60,63,120,109,108]:=by
      rw [hpc,txt_toList]
      intro e
      have:=u8L_inj (HBS.out.take 5) (bsl [60,63,120,109,108] rfl) e
      exact hp (List.prefix_iff_eq_take.2 this.symm)
     obtain ⟨PC,hPC⟩:∃ PC,PC=S.extract 0 5:=⟨_,rfl⟩
     rw [←hPC] at hsl hne
     have hne2:(PC.toList == [60,63,120,109,108])=false:=beq_eq_false_iff_ne.2 hne
     clear hpc hPC
     go_wp2
     go_meet
     case rel=>exact ⟨by
      have h1:=HD.out
      cases DC <;> simp [hp] at h1 ⊢,rfl⟩
   ·have h5I:¬(5:Int)<S.size:=by rw [hSz];omega
    go_wp2
    go_meet
    case rel=>exact ⟨by
     have h1:=HD.out
     cases DC <;> simp [h5] at h1 ⊢,rfl⟩
  ·have hkI:((k:Int) == 0)=false:=beq_eq_false_iff_ne.2 (by omega)
   have hkI2:¬(k:Int)=0:=by omega
   go_wp2
   go_meet
   case rel=>exact ⟨by
    have:DC=false:=by rw [HDC.out];exact decide_eq_false (fun e=>hk (by simpa using e.1))
    rw [this],rfl⟩
 case rest=>
  obtain ⟨rfl,hwc⟩:=hcut
  have hwc:=hwc.symm
  subst hwc
  obtain rfl:DC=false:=by rw [HDC.out];exact decide_eq_false hd
  clear c0 c1
  have hyl:=pre_le (by simp) hy
  obtain ⟨k2,hk2⟩:∃ k2,k2=k+9:=⟨_,rfl⟩
  have N0:Hid (∀ W,Rq W p xs k k 0→Calls Tryz.prog 46 #[.pointer (some ⟨p,0,none⟩),.string ⟨#[60,63]⟩] W (Rs p xs k (.bool false) k 0 W)):=Lib.hid fun W hW=>by
   have:=qhas W p xs k k 0 [60,63] ⟨#[60,63]⟩ rfl (bsl _ rfl) (by simp) hW
   rwa [if_neg (fun e=>h0 e.2),decide_eq_false (fun e=>h0 e.2)] at this
  have N1:Hid (∀ W,Rq W p xs k k 0→Calls Tryz.prog 46 #[.pointer (some ⟨p,0,none⟩),.string ⟨#[60,33,45,45]⟩] W (Rs p xs k (.bool false) k 0 W)):=Lib.hid fun W hW=>by
   have:=qhas W p xs k k 0 [60,33,45,45] ⟨#[60,33,45,45]⟩ rfl (bsl _ rfl) (by simp) hW
   rwa [if_neg (fun e=>h1 e.2),decide_eq_false (fun e=>h1 e.2)] at this
  have Y:Hid (∀ W,Rq W p xs k k 0→Calls Tryz.prog 46 #[.pointer (some ⟨p,0,none⟩),.string ⟨#[60,33,91,67,68,65,84,65,91]⟩] W (Rs p xs k (.bool true) k2 0 W)):=Lib.hid fun W hW=>by
   have:=qhas W p xs k k 0 [60,33,91,67,68,65,84,65,91] ⟨#[60,33,91,67,68,65,84,65,91]⟩ rfl (bsl _ rfl) (by simp) hW
   rw [if_pos ⟨rfl,hy⟩,decide_eq_true (show 0=0∧[60,33,91,67,68,65,84,65,91] <+: xs.drop k from ⟨rfl,hy⟩)] at this
   rw [hk2];exact this
  have HK2:=Lib.hid hk2
  have hu:=unR_up [93,93,62] (xs.drop k2)
  obtain ⟨⟨T,n,e⟩,hU⟩:∃ x,x=unR [93,93,62] (xs.drop k2) 0:=⟨_,rfl⟩
  have HR:=Lib.hid (rw_R hU.symm)
  have KU:Hid (∀ W,Rq W p xs k2 k 0→Calls Tryz.prog 51 #[.pointer (some ⟨p,0,none⟩),.string ⟨#[93,93,62]⟩] W (Rs p xs k (.string (txt T)) (k2+n) e W)):=Lib.hid fun W hW=>by
   have:=quntil W p xs k2 k 0 [93,93,62] ⟨#[93,93,62]⟩ rfl (bsl _ rfl) (by simp) (by simp) hW
   rwa [←hU] at this
  obtain ⟨TT,hTT⟩:∃ TT,TT=txt T:=⟨_,rfl⟩
  rw [←hTT] at KU
  have HTT:=Lib.hid hTT
  clear h hy hyl hk2 h0 h1 hd hu hU hTT
  go_wp2_with (first
   | (go_at_call 46;(with_reducible refine (N0.out _ R0.out.rq).mono ?_);rintro e w1 ⟨rfl,ht,hs⟩;have R1:=Lib.hid (R0.out.step ht hs);clear ht hs;obtain ⟨ca0,ca1,ca2,ca3,ca4,ca5⟩:=R1.out.ce;obtain ⟨cb0,cb1,cb2,cb3,cb4,cb5⟩:=R1.out.fr6)
   | (go_at_call 46;(with_reducible refine (N1.out _ R1.out.rq).mono ?_);rintro e w2 ⟨rfl,ht,hs⟩;have R2:=Lib.hid (R1.out.step ht hs);clear ht hs;obtain ⟨ca0,ca1,ca2,ca3,ca4,ca5⟩:=R2.out.ce;obtain ⟨cb0,cb1,cb2,cb3,cb4,cb5⟩:=R2.out.fr6)
   | (go_at_call 46;(with_reducible refine (Y.out _ R2.out.rq).mono ?_);rintro e w3 ⟨rfl,ht,hs⟩;have R3:=Lib.hid (R2.out.step ht hs);clear ht hs;obtain ⟨ca0,ca1,ca2,ca3,ca4,ca5⟩:=R3.out.ce;obtain ⟨cb0,cb1,cb2,cb3,cb4,cb5⟩:=R3.out.fr6)
   | (go_at_call 51;(with_reducible refine (KU.out _ (R3.out.set 0 (.int .i64 4)).rq).mono ?_);rintro e w4 ⟨rfl,ht,hs⟩;have R4:=Lib.hid ((R3.out.set 0 (.int .i64 4)).step ht hs);clear ht hs;obtain ⟨ca0,ca1,ca2,ca3,ca4,ca5⟩:=R4.out.ce;obtain ⟨cb0,cb1,cb2,cb3,cb4,cb5⟩:=R4.out.fr6;have hz0:=(R4.out.set 2 (.string TT)).ce0;obtain ⟨cz0,cz1,cz2,cz3,cz4,cz5⟩:=hz0;have hy0:=(R4.out.set 2 (.string TT)).fr0;obtain ⟨cy0,cy1,cy2,cy3,cy4,cy5⟩:=hy0))
  refine bodyPost_ret (res25 rfl (st6_any (R4.out.set 2 _).b0 _ _ _ _ _ _)) rfl ?_
  rw [HTT.out,←HK2.out]
  refine (R4.out.set 2 _).end_ 4 [] T (plus_to (d:=9) ?_)
  have hr:=HR.out
  have:=HK2.out
  generalize rwP (xs.drop k2)=RR at hr ⊢
  rcases RR with x | ⟨t,m⟩
  ·exact hr
  ·exact ⟨hr.1,by have:=hr.2.1;omega,hr.2.2⟩
set_option maxHeartbeats 6400000 in
theorem rtoken_3 (w:World) (p:Nat) (xs:List Nat) (k fr pl:Nat) (h:Rp w p xs k fr 0 pl) (hd:¬isDc (k == 0) (xs.drop k)) (h0:¬[60,63] <+: xs.drop k) (h1:¬[60,33,45,45] <+: xs.drop k) (h2:¬[60,33,91,67,68,65,84,65,91] <+: xs.drop k) (hy:[60,33] <+: xs.drop k) :
  Calls Tryz.prog 25 #[.pointer (some ⟨p,0,none⟩)] w (RkTo p xs k (.error 17) w):=by
 have HBS:=Lib.hid h.bs
 have hlen:=h.len
 have hkl:=h.le
 have RB:=Lib.hid (Rr.begin h)
 obtain ⟨S,hS⟩:∃ S,S=txt xs:=⟨_,rfl⟩
 have HSS:=Lib.hid hS
 have hSz:S.size=xs.length:=by rw [hS];exact txt_size xs
 have HGET:Hid (∀ i (h:i<S.size),((S[i]'h).toNat)=xs.getD i 0):=Lib.hid fun i h=>by subst hS;exact txt_get xs HBS.out i _
 have HEX:=Lib.hid fun i j=>txt_extract xs i j
 rw [←hS] at HEX
 have KBL:=Lib.hid fun (v:Nat) W=>rBlank_any (v:Int) W
 obtain ⟨DC,hDC⟩:∃ DC,DC=decide (isDc (k == 0) (xs.drop k)):=⟨_,rfl⟩
 have HDC:=Lib.hid hDC
 have hA:=h.below (lit_below w (.cells z44 58))
 have a1:=hA.c1
 have a2:=hA.c2
 have g2:=hA.blk.free 2
 clear hS hDC hA
 go_enter Tryz.func25,Tryz.ntmps25
 go_upto_region 10 with fail
 refine gen_w0 fun W0 hW0=>?_
 have R0:Hid (Rr w W0 p xs k k 0 #[.int .i64 0,.string ⟨#[]⟩,.string ⟨#[]⟩,.slice none 0 0,.bool false,.int .i64 (k:Nat)]):=Lib.hid (by rw [hW0];exact RB.out)
 have c0:=R0.out.rq.c0
 rw [←HSS.out] at c0
 have c1:=R0.out.rq.c1
 clear hW0 RB a1 a2 g2
 go_cut [87] from 88 to 117 (fun s87 wx=>s87 = .bool DC∧wx=W0)
 case first=>
  by_cases hk:k=0
  ·subst hk
   have HD:Hid (DC=true↔5<xs.length∧[60,63,120,109,108] <+: xs∧blaP (xs.getD 5 0)=true):=Lib.hid (by rw [HDC.out,decide_eq_true_iff];exact isDc_is HBS.out)
   by_cases h5:5<xs.length
   ·have h5I:(5:Int)<S.size:=by rw [hSz];omega
    have hsl:∀ W,(Instr.slice 9 (.string S) none (some (.int .i64 5)) none).run Tryz.prog W = .ok (.string (S.extract 0 5)) W:=fun W=>by
     have h4:(5:Int)≤S.size:=by omega
     simp [go_sem,h4]
    have hpc:S.extract 0 5=txt (xs.take 5):=by rw [HEX.out];rfl
    by_cases hp:[60,63,120,109,108] <+: xs
    ·have ht5:xs.take 5=[60,63,120,109,108]:=(List.prefix_iff_eq_take.1 hp).symm
     have h5n:5<S.size:=by rw [hSz];exact h5
     obtain ⟨x,hx⟩:∃ x:UInt8,S[5]'h5n=x:=⟨_,rfl⟩
     have hxn:xs.getD 5 0=x.toNat:=by rw [←hx];exact (HGET.out 5 h5n).symm
     have hx256:=x.toNat_lt
     rw [hpc,ht5,show txt [60,63,120,109,108]=⟨#[60,63,120,109,108]⟩ from rfl] at hsl
     rw [hxn] at HD
     have KB2:=KBL.out x.toNat
     rw [show wth blankL (x.toNat:Int)=blaP x.toNat from rfl] at KB2
     obtain ⟨bb,hbb⟩:∃ b,b=blaP x.toNat:=⟨_,rfl⟩
     rw [←hbb] at KB2 HD
     have KB2:=Lib.hid KB2
     clear hbb hpc ht5 hxn
     go_wp2_with (go_at_call 44;(with_reducible refine (KB2.out _).mono ?_);rintro e w1 ⟨rfl,rfl⟩)
     go_meet
     case rel=>exact ⟨by
      have h1:=HD.out
      cases DC <;> cases bb <;> simp [h5,hp] at h1 ⊢,rfl⟩
    ·have hne:(S.extract 0 5).toList≠[60,63,120,109,108]:=by
      rw [hpc,txt_toList]
      intro e
      have:=u8L_inj (HBS.out.take 5) (bsl [60,63,120,109,108] rfl) e
      exact hp (List.prefix_iff_eq_take.2 this.symm)
     obtain ⟨PC,hPC⟩:∃ PC,PC=S.extract 0 5:=⟨_,rfl⟩
     rw [←hPC] at hsl hne
     have hne2:(PC.toList == [60,63,120,109,108])=false:=beq_eq_false_iff_ne.2 hne
     clear hpc hPC
     go_wp2
     go_meet
     case rel=>exact ⟨by
      have h1:=HD.out
      cases DC <;> simp [hp] at h1 ⊢,rfl⟩
   ·have h5I:¬(5:Int)<S.size:=by rw [hSz];omega
    go_wp2
    go_meet
    case rel=>exact ⟨by
     have h1:=HD.out
     cases DC <;> simp [h5] at h1 ⊢,rfl⟩
  ·have hkI:((k:Int) == 0)=false:=beq_eq_false_iff_ne.2 (by omega)
   have hkI2:¬(k:Int)=0:=by omega
   go_wp2
   go_meet
   case rel=>exact ⟨by
    have:DC=false:=by rw [HDC.out];exact decide_eq_false (fun e=>hk (by simpa using e.1))
    rw [this],rfl⟩
 case rest=>
  obtain ⟨rfl,hwc⟩:=hcut
  have hwc:=hwc.symm
  subst hwc
  obtain rfl:DC=false:=by rw [HDC.out];exact decide_eq_false hd
  clear c0 c1
  have hyl:=pre_le (by simp) hy
  obtain ⟨k2,hk2⟩:∃ k2,k2=k+2:=⟨_,rfl⟩
  have N0:Hid (∀ W,Rq W p xs k k 0→Calls Tryz.prog 46 #[.pointer (some ⟨p,0,none⟩),.string ⟨#[60,63]⟩] W (Rs p xs k (.bool false) k 0 W)):=Lib.hid fun W hW=>by
   have:=qhas W p xs k k 0 [60,63] ⟨#[60,63]⟩ rfl (bsl _ rfl) (by simp) hW
   rwa [if_neg (fun e=>h0 e.2),decide_eq_false (fun e=>h0 e.2)] at this
  have N1:Hid (∀ W,Rq W p xs k k 0→Calls Tryz.prog 46 #[.pointer (some ⟨p,0,none⟩),.string ⟨#[60,33,45,45]⟩] W (Rs p xs k (.bool false) k 0 W)):=Lib.hid fun W hW=>by
   have:=qhas W p xs k k 0 [60,33,45,45] ⟨#[60,33,45,45]⟩ rfl (bsl _ rfl) (by simp) hW
   rwa [if_neg (fun e=>h1 e.2),decide_eq_false (fun e=>h1 e.2)] at this
  have N2:Hid (∀ W,Rq W p xs k k 0→Calls Tryz.prog 46 #[.pointer (some ⟨p,0,none⟩),.string ⟨#[60,33,91,67,68,65,84,65,91]⟩] W (Rs p xs k (.bool false) k 0 W)):=Lib.hid fun W hW=>by
   have:=qhas W p xs k k 0 [60,33,91,67,68,65,84,65,91] ⟨#[60,33,91,67,68,65,84,65,91]⟩ rfl (bsl _ rfl) (by simp) hW
   rwa [if_neg (fun e=>h2 e.2),decide_eq_false (fun e=>h2 e.2)] at this
  have Y:Hid (∀ W,Rq W p xs k k 0→Calls Tryz.prog 46 #[.pointer (some ⟨p,0,none⟩),.string ⟨#[60,33]⟩] W (Rs p xs k (.bool true) k2 0 W)):=Lib.hid fun W hW=>by
   have:=qhas W p xs k k 0 [60,33] ⟨#[60,33]⟩ rfl (bsl _ rfl) (by simp) hW
   rw [if_pos ⟨rfl,hy⟩,decide_eq_true (show 0=0∧[60,33] <+: xs.drop k from ⟨rfl,hy⟩)] at this
   rw [hk2];exact this
  have HK2:=Lib.hid hk2
  have KF:Hid (∀ W,Rq W p xs k2 k 0→Calls Tryz.prog 49 #[.pointer (some ⟨p,0,none⟩),.int .i64 17] W (Rs p xs k (.tuple #[]) k2 17 W)):=Lib.hid fun W hW=>by
   have:=qfail W p xs k2 k 0 17 hW
   rwa [if_pos rfl] at this
  clear h hy hyl hk2 h0 h1 h2 hd
  go_wp2_with (first
   | (go_at_call 46;(with_reducible refine (N0.out _ R0.out.rq).mono ?_);rintro e w1 ⟨rfl,ht,hs⟩;have R1:=Lib.hid (R0.out.step ht hs);clear ht hs;obtain ⟨ca0,ca1,ca2,ca3,ca4,ca5⟩:=R1.out.ce;obtain ⟨cb0,cb1,cb2,cb3,cb4,cb5⟩:=R1.out.fr6)
   | (go_at_call 46;(with_reducible refine (N1.out _ R1.out.rq).mono ?_);rintro e w2 ⟨rfl,ht,hs⟩;have R2:=Lib.hid (R1.out.step ht hs);clear ht hs;obtain ⟨ca0,ca1,ca2,ca3,ca4,ca5⟩:=R2.out.ce;obtain ⟨cb0,cb1,cb2,cb3,cb4,cb5⟩:=R2.out.fr6)
   | (go_at_call 46;(with_reducible refine (N2.out _ R2.out.rq).mono ?_);rintro e w3 ⟨rfl,ht,hs⟩;have R3:=Lib.hid (R2.out.step ht hs);clear ht hs;obtain ⟨ca0,ca1,ca2,ca3,ca4,ca5⟩:=R3.out.ce;obtain ⟨cb0,cb1,cb2,cb3,cb4,cb5⟩:=R3.out.fr6)
   | (go_at_call 46;(with_reducible refine (Y.out _ R3.out.rq).mono ?_);rintro e w4 ⟨rfl,ht,hs⟩;have R4:=Lib.hid (R3.out.step ht hs);clear ht hs;obtain ⟨ca0,ca1,ca2,ca3,ca4,ca5⟩:=R4.out.ce;obtain ⟨cb0,cb1,cb2,cb3,cb4,cb5⟩:=R4.out.fr6)
   | (go_at_call 49;(with_reducible refine (KF.out _ R4.out.rq).mono ?_);rintro e w5 ⟨rfl,ht,hs⟩;have R5:=Lib.hid (R4.out.step ht hs);clear ht hs;obtain ⟨ca0,ca1,ca2,ca3,ca4,ca5⟩:=R5.out.ce;obtain ⟨cb0,cb1,cb2,cb3,cb4,cb5⟩:=R5.out.fr6;have hz0:=R5.out.ce0;obtain ⟨cz0,cz1,cz2,cz3,cz4,cz5⟩:=hz0;have hy0:=R5.out.fr0;obtain ⟨cy0,cy1,cy2,cy3,cy4,cy5⟩:=hy0))
  refine bodyPost_ret (res25 rfl (st6_any R5.out.b0 _ _ _ _ _ _)) rfl ?_
  exact R5.out.no (by decide)
set_option maxHeartbeats 6400000 in
theorem rtoken_4 (w:World) (p:Nat) (xs:List Nat) (k fr pl:Nat) (h:Rp w p xs k fr 0 pl) (hd:¬isDc (k == 0) (xs.drop k)) (h0:¬[60,63] <+: xs.drop k) (h1:¬[60,33,45,45] <+: xs.drop k) (h2:¬[60,33,91,67,68,65,84,65,91] <+: xs.drop k) (h3:¬[60,33] <+: xs.drop k) (hy:[60,47] <+: xs.drop k) :
  Calls Tryz.prog 25 #[.pointer (some ⟨p,0,none⟩)] w (RkTo p xs k (plus 2 (enP ((xs.drop k).drop 2))) w):=by
 rw [List.drop_drop]
 have HBS:=Lib.hid h.bs
 have hlen:=h.len
 have hkl:=h.le
 have RB:=Lib.hid (Rr.begin h)
 obtain ⟨S,hS⟩:∃ S,S=txt xs:=⟨_,rfl⟩
 have HSS:=Lib.hid hS
 have hSz:S.size=xs.length:=by rw [hS];exact txt_size xs
 have HGET:Hid (∀ i (h:i<S.size),((S[i]'h).toNat)=xs.getD i 0):=Lib.hid fun i h=>by subst hS;exact txt_get xs HBS.out i _
 have HEX:=Lib.hid fun i j=>txt_extract xs i j
 rw [←hS] at HEX
 have KBL:=Lib.hid fun (v:Nat) W=>rBlank_any (v:Int) W
 obtain ⟨DC,hDC⟩:∃ DC,DC=decide (isDc (k == 0) (xs.drop k)):=⟨_,rfl⟩
 have HDC:=Lib.hid hDC
 have hA:=h.below (lit_below w (.cells z44 58))
 have a1:=hA.c1
 have a2:=hA.c2
 have g2:=hA.blk.free 2
 clear hS hDC hA
 go_enter Tryz.func25,Tryz.ntmps25
 go_upto_region 10 with fail
 refine gen_w0 fun W0 hW0=>?_
 have R0:Hid (Rr w W0 p xs k k 0 #[.int .i64 0,.string ⟨#[]⟩,.string ⟨#[]⟩,.slice none 0 0,.bool false,.int .i64 (k:Nat)]):=Lib.hid (by rw [hW0];exact RB.out)
 have c0:=R0.out.rq.c0
 rw [←HSS.out] at c0
 have c1:=R0.out.rq.c1
 clear hW0 RB a1 a2 g2
 go_cut [87] from 88 to 117 (fun s87 wx=>s87 = .bool DC∧wx=W0)
 case first=>
  by_cases hk:k=0
  ·subst hk
   have HD:Hid (DC=true↔5<xs.length∧[60,63,120,109,108] <+: xs∧blaP (xs.getD 5 0)=true):=Lib.hid (by rw [HDC.out,decide_eq_true_iff];exact isDc_is HBS.out)
   by_cases h5:5<xs.length
   ·have h5I:(5:Int)<S.size:=by rw [hSz];omega
    have hsl:∀ W,(Instr.slice 9 (.string S) none (some (.int .i64 5)) none).run Tryz.prog W = .ok (.string (S.extract 0 5)) W:=fun W=>by
     have h4:(5:Int)≤S.size:=by omega
     simp [go_sem,h4]
    have hpc:S.extract 0 5=txt (xs.take 5):=by rw [HEX.out];rfl
    by_cases hp:[60,63,120,109,108] <+: xs
    ·have ht5:xs.take 5=[60,63,120,109,108]:=(List.prefix_iff_eq_take.1 hp).symm
     have h5n:5<S.size:=by rw [hSz];exact h5
     obtain ⟨x,hx⟩:∃ x:UInt8,S[5]'h5n=x:=⟨_,rfl⟩
     have hxn:xs.getD 5 0=x.toNat:=by rw [←hx];exact (HGET.out 5 h5n).symm
     have hx256:=x.toNat_lt
     rw [hpc,ht5,show txt [60,63,120,109,108]=⟨#[60,63,120,109,108]⟩ from rfl] at hsl
     rw [hxn] at HD
     have KB2:=KBL.out x.toNat
     rw [show wth blankL (x.toNat:Int)=blaP x.toNat from rfl] at KB2
     obtain ⟨bb,hbb⟩:∃ b,b=blaP x.toNat:=⟨_,rfl⟩
     rw [←hbb] at KB2 HD
     have KB2:=Lib.hid KB2
     clear hbb hpc ht5 hxn
     go_wp2_with (go_at_call 44;(with_reducible refine (KB2.out _).mono ?_);rintro e w1 ⟨rfl,rfl⟩)
     go_meet
     case rel=>exact ⟨by
      have h1:=HD.out
      cases DC <;> cases bb <;> simp [h5,hp] at h1 ⊢,rfl⟩
    ·have hne:(S.extract 0 5).toList≠[60,63,120,109,108]:=by
      rw [hpc,txt_toList]
      intro e
      have:=u8L_inj (HBS.out.take 5) (bsl [60,63,120,109,108] rfl) e
      exact hp (List.prefix_iff_eq_take.2 this.symm)
     obtain ⟨PC,hPC⟩:∃ PC,PC=S.extract 0 5:=⟨_,rfl⟩
     rw [←hPC] at hsl hne
     have hne2:(PC.toList == [60,63,120,109,108])=false:=beq_eq_false_iff_ne.2 hne
     clear hpc hPC
     go_wp2
     go_meet
     case rel=>exact ⟨by
      have h1:=HD.out
      cases DC <;> simp [hp] at h1 ⊢,rfl⟩
   ·have h5I:¬(5:Int)<S.size:=by rw [hSz];omega
    go_wp2
    go_meet
    case rel=>exact ⟨by
     have h1:=HD.out
     cases DC <;> simp [h5] at h1 ⊢,rfl⟩
  ·have hkI:((k:Int) == 0)=false:=beq_eq_false_iff_ne.2 (by omega)
   have hkI2:¬(k:Int)=0:=by omega
   go_wp2
   go_meet
   case rel=>exact ⟨by
    have:DC=false:=by rw [HDC.out];exact decide_eq_false (fun e=>hk (by simpa using e.1))
    rw [this],rfl⟩
 case rest=>
  obtain ⟨rfl,hwc⟩:=hcut
  have hwc:=hwc.symm
  subst hwc
  obtain rfl:DC=false:=by rw [HDC.out];exact decide_eq_false hd
  clear c0 c1
  have hyl:=pre_le (by simp) hy
  obtain ⟨k2,hk2⟩:∃ k2,k2=k+2:=⟨_,rfl⟩
  have N0:Hid (∀ W,Rq W p xs k k 0→Calls Tryz.prog 46 #[.pointer (some ⟨p,0,none⟩),.string ⟨#[60,63]⟩] W (Rs p xs k (.bool false) k 0 W)):=Lib.hid fun W hW=>by
   have:=qhas W p xs k k 0 [60,63] ⟨#[60,63]⟩ rfl (bsl _ rfl) (by simp) hW
   rwa [if_neg (fun e=>h0 e.2),decide_eq_false (fun e=>h0 e.2)] at this
  have N1:Hid (∀ W,Rq W p xs k k 0→Calls Tryz.prog 46 #[.pointer (some ⟨p,0,none⟩),.string ⟨#[60,33,45,45]⟩] W (Rs p xs k (.bool false) k 0 W)):=Lib.hid fun W hW=>by
   have:=qhas W p xs k k 0 [60,33,45,45] ⟨#[60,33,45,45]⟩ rfl (bsl _ rfl) (by simp) hW
   rwa [if_neg (fun e=>h1 e.2),decide_eq_false (fun e=>h1 e.2)] at this
  have N2:Hid (∀ W,Rq W p xs k k 0→Calls Tryz.prog 46 #[.pointer (some ⟨p,0,none⟩),.string ⟨#[60,33,91,67,68,65,84,65,91]⟩] W (Rs p xs k (.bool false) k 0 W)):=Lib.hid fun W hW=>by
   have:=qhas W p xs k k 0 [60,33,91,67,68,65,84,65,91] ⟨#[60,33,91,67,68,65,84,65,91]⟩ rfl (bsl _ rfl) (by simp) hW
   rwa [if_neg (fun e=>h2 e.2),decide_eq_false (fun e=>h2 e.2)] at this
  have N3:Hid (∀ W,Rq W p xs k k 0→Calls Tryz.prog 46 #[.pointer (some ⟨p,0,none⟩),.string ⟨#[60,33]⟩] W (Rs p xs k (.bool false) k 0 W)):=Lib.hid fun W hW=>by
   have:=qhas W p xs k k 0 [60,33] ⟨#[60,33]⟩ rfl (bsl _ rfl) (by simp) hW
   rwa [if_neg (fun e=>h3 e.2),decide_eq_false (fun e=>h3 e.2)] at this
  have Y:Hid (∀ W,Rq W p xs k k 0→Calls Tryz.prog 46 #[.pointer (some ⟨p,0,none⟩),.string ⟨#[60,47]⟩] W (Rs p xs k (.bool true) k2 0 W)):=Lib.hid fun W hW=>by
   have:=qhas W p xs k k 0 [60,47] ⟨#[60,47]⟩ rfl (bsl _ rfl) (by simp) hW
   rw [if_pos ⟨rfl,hy⟩,decide_eq_true (show 0=0∧[60,47] <+: xs.drop k from ⟨rfl,hy⟩)] at this
   rw [hk2];exact this
  have HK2:=Lib.hid hk2
  obtain ⟨⟨T,n,e⟩,hU⟩:∃ x,x=nmR (xs.drop k2) 0:=⟨_,rfl⟩
  have HR:=Lib.hid (en_R hU.symm)
  have KU:Hid (∀ W,Rq W p xs k2 k 0→Calls Tryz.prog 53 #[.pointer (some ⟨p,0,none⟩)] W (Rs p xs k (.string (txt T)) (k2+n) e W)):=Lib.hid fun W hW=>by
   have:=qname W p xs k2 k 0 hW
   rwa [←hU] at this
  have KB:Hid (∀ W,Rq W p xs (k2+n) k e→Calls Tryz.prog 50 #[.pointer (some ⟨p,0,none⟩)] W (Rs p xs k (.int .i64 (bV xs (k2+n) e:Nat)) (dR xs (k2+n) e) e W)):=Lib.hid fun W hW=>qblanks W p xs (k2+n) k e hW
  have KN:Hid (∀ W,Rq W p xs (dR xs (k2+n) e) k e→Calls Tryz.prog 52 #[.pointer (some ⟨p,0,none⟩),.string ⟨#[62]⟩] W (Rs p xs k (.tuple #[]) (nK 62 xs (dR xs (k2+n) e) e) (nE 62 xs (dR xs (k2+n) e) e) W)):=Lib.hid fun W hW=>qneed W p xs (dR xs (k2+n) e) k e [62] ⟨#[62]⟩ rfl (bsl _ rfl) (by simp) hW
  obtain ⟨TT,hTT⟩:∃ TT,TT=txt T:=⟨_,rfl⟩
  rw [←hTT] at KU
  have HTT:=Lib.hid hTT
  generalize nK 62 xs (dR xs (k2+n) e) e=k4 at KN HR
  generalize nE 62 xs (dR xs (k2+n) e) e=e4 at KN HR
  generalize dR xs (k2+n) e=k3 at KN KB
  generalize bV xs (k2+n) e=b3 at KB
  clear h hy hyl hk2 h0 h1 h2 h3 hd hU hTT
  go_wp2_with (first
   | (go_at_call 46;(with_reducible refine (N0.out _ R0.out.rq).mono ?_);rintro e w1 ⟨rfl,ht,hs⟩;have R1:=Lib.hid (R0.out.step ht hs);clear ht hs;obtain ⟨ca0,ca1,ca2,ca3,ca4,ca5⟩:=R1.out.ce;obtain ⟨cb0,cb1,cb2,cb3,cb4,cb5⟩:=R1.out.fr6)
   | (go_at_call 46;(with_reducible refine (N1.out _ R1.out.rq).mono ?_);rintro e w2 ⟨rfl,ht,hs⟩;have R2:=Lib.hid (R1.out.step ht hs);clear ht hs;obtain ⟨ca0,ca1,ca2,ca3,ca4,ca5⟩:=R2.out.ce;obtain ⟨cb0,cb1,cb2,cb3,cb4,cb5⟩:=R2.out.fr6)
   | (go_at_call 46;(with_reducible refine (N2.out _ R2.out.rq).mono ?_);rintro e w3 ⟨rfl,ht,hs⟩;have R3:=Lib.hid (R2.out.step ht hs);clear ht hs;obtain ⟨ca0,ca1,ca2,ca3,ca4,ca5⟩:=R3.out.ce;obtain ⟨cb0,cb1,cb2,cb3,cb4,cb5⟩:=R3.out.fr6)
   | (go_at_call 46;(with_reducible refine (N3.out _ R3.out.rq).mono ?_);rintro e w4 ⟨rfl,ht,hs⟩;have R4:=Lib.hid (R3.out.step ht hs);clear ht hs;obtain ⟨ca0,ca1,ca2,ca3,ca4,ca5⟩:=R4.out.ce;obtain ⟨cb0,cb1,cb2,cb3,cb4,cb5⟩:=R4.out.fr6)
   | (go_at_call 46;(with_reducible refine (Y.out _ R4.out.rq).mono ?_);rintro e w5 ⟨rfl,ht,hs⟩;have R5:=Lib.hid (R4.out.step ht hs);clear ht hs;obtain ⟨ca0,ca1,ca2,ca3,ca4,ca5⟩:=R5.out.ce;obtain ⟨cb0,cb1,cb2,cb3,cb4,cb5⟩:=R5.out.fr6)
   | (go_at_call 53;(with_reducible refine (KU.out _ (R5.out.set 0 (.int .i64 6)).rq).mono ?_);rintro e w6 ⟨rfl,ht,hs⟩;have R6:=Lib.hid ((R5.out.set 0 (.int .i64 6)).step ht hs);clear ht hs;obtain ⟨ca0,ca1,ca2,ca3,ca4,ca5⟩:=R6.out.ce;obtain ⟨cb0,cb1,cb2,cb3,cb4,cb5⟩:=R6.out.fr6)
   | (go_at_call 50;(with_reducible refine (KB.out _ (R6.out.set 1 (.string TT)).rq).mono ?_);rintro e w7 ⟨rfl,ht,hs⟩;have R7:=Lib.hid ((R6.out.set 1 (.string TT)).step ht hs);clear ht hs;obtain ⟨ca0,ca1,ca2,ca3,ca4,ca5⟩:=R7.out.ce;obtain ⟨cb0,cb1,cb2,cb3,cb4,cb5⟩:=R7.out.fr6)
   | (go_at_call 52;(with_reducible refine (KN.out _ R7.out.rq).mono ?_);rintro e w8 ⟨rfl,ht,hs⟩;have R8:=Lib.hid (R7.out.step ht hs);clear ht hs;obtain ⟨ca0,ca1,ca2,ca3,ca4,ca5⟩:=R8.out.ce;obtain ⟨cb0,cb1,cb2,cb3,cb4,cb5⟩:=R8.out.fr6;have hz0:=R8.out.ce0;obtain ⟨cz0,cz1,cz2,cz3,cz4,cz5⟩:=hz0;have hy0:=R8.out.fr0;obtain ⟨cy0,cy1,cy2,cy3,cy4,cy5⟩:=hy0))
  refine bodyPost_ret (res25 rfl (st6_any R8.out.b0 _ _ _ _ _ _)) rfl ?_
  rw [HTT.out,←HK2.out]
  refine R8.out.end_ 6 T [] (plus_to (d:=2) ?_)
  have hr:=HR.out
  have:=HK2.out
  generalize enP (xs.drop k2)=RR at hr ⊢
  rcases RR with x | ⟨t,m⟩
  ·exact hr
  ·exact ⟨hr.1,by have:=hr.2.1;omega,hr.2.2⟩
end
end Go.Proofs.YtbogfailbgbdoaaGreatDoor.K
