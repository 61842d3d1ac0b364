/- Part 4. -/
import Derived.Deep.Cut
import Derived.Deep.RegionHeld3
import Derived.Laws.BytesArg
import Derived.Laws.IdiomStrings
import Derived.WalkLawsBesides
import Derived.Test.YtbogfailbgbdoaaGreatDoorXB3
set_option linter.unusedVariables false
set_option linter.unusedSimpArgs false
namespace Go.Proofs.YtbogfailbgbdoaaGreatDoor.K
set_option maxRecDepth 100000
section
open Go.RowKit Go.Proofs.YtbogfailbgbdoaaGreatDoor U
def blaP (v:Nat):Bool:=wth blankL v
theorem blaP_zero:blaP 0=false:=by decide +kernel
theorem goP_zero:goP 0=false:=by decide +kernel
theorem begP_zero:begP 0=false:=by decide +kernel
def skF (p:Nat→Bool):Nat→List Nat→Nat
 | 0,_=>0
 | f+1,L=>if p (nx L).1=true then (nx L).2+skF p f (L.drop (nx L).2) else 0
def sk (p:Nat→Bool) (L:List Nat):Nat:=skF p L.length L
theorem nx_zero {p:Nat→Bool} (h0:p 0=false) {L:List Nat} (h:p (nx L).1=true):0<(nx L).2∧L≠[]:=by
 refine ⟨?_,?_⟩
 ·rcases Nat.eq_zero_or_pos (nx L).2 with e | e
  ·rw [nx_none e,h0] at h;cases h
  ·exact e
 ·intro e;subst e
  rw [show nx []=(0,0) from rfl,h0] at h;cases h
theorem skF_fuel {p:Nat→Bool} (h0:p 0=false):∀ (f g:Nat) (L:List Nat),L.length≤f→L.length≤g→skF p f L=skF p g L
 | 0,0,_,_,_=>rfl
 | 0,g+1,L,h,_=>by
  have:L=[]:=List.eq_nil_of_length_eq_zero (by omega)
  subst this
  rw [skF,skF,show nx []=(0,0) from rfl,if_neg (by rw [h0];simp)]
 | f+1,0,L,_,h=>by
  have:L=[]:=List.eq_nil_of_length_eq_zero (by omega)
  subst this
  rw [skF,skF,show nx []=(0,0) from rfl,if_neg (by rw [h0];simp)]
 | f+1,g+1,L,h,h'=>by
  unfold skF
  by_cases hp:p (nx L).1=true
  ·have:=(nx_zero h0 hp).1
   rw [if_pos hp,if_pos hp,skF_fuel h0 f g _ (by rw [List.length_drop];omega) (by rw [List.length_drop];omega)]
  ·rw [if_neg hp,if_neg hp]
theorem sk_yes {p:Nat→Bool} (h0:p 0=false) {L:List Nat} (h:p (nx L).1=true):sk p L=(nx L).2+sk p (L.drop (nx L).2):=by
 obtain ⟨h1,h2⟩:=nx_zero h0 h
 have hl:=List.length_pos_iff.2 h2
 obtain ⟨m,hm⟩:∃ m,L.length=m+1:=⟨L.length-1,by omega⟩
 unfold sk
 rw [hm,skF,if_pos h,skF_fuel h0 m _ _ (by rw [List.length_drop];omega) (Nat.le_refl _)]
theorem sk_no {p:Nat→Bool} {L:List Nat} (h:p (nx L).1=false):sk p L=0:=by
 unfold sk
 cases L.length with
 | zero=>rfl
 | succ n=>rw [skF,if_neg (by rw [h];simp)]
theorem sk_le {p:Nat→Bool} (h0:p 0=false):∀ (n:Nat) (L:List Nat),Bs L→L.length≤n→sk p L≤L.length
 | 0,L,_,h=>by
  have:L=[]:=List.eq_nil_of_length_eq_zero (by omega)
  subst this;rw [show sk p []=0 from rfl];exact Nat.zero_le _
 | n+1,L,hb,h=>by
  by_cases hp:p (nx L).1=true
  ·have h1:=(nx_zero h0 hp).1
   have h2:=(nx_le4 L hb).2.1
   have:=sk_le h0 n (L.drop (nx L).2) (hb.drop _) (by rw [List.length_drop];omega)
   rw [sk_yes h0 hp]
   rw [List.length_drop] at this
   omega
  ·rw [sk_no (by simpa using hp)];exact Nat.zero_le _
theorem sk_len {p:Nat→Bool} (h0:p 0=false) {L:List Nat} (hb:Bs L):sk p L≤L.length:=sk_le h0 L.length L hb (Nat.le_refl _)
def nmP (L:List Nat):Except Nat Nat:=if begP (nx L).1=true then .ok (sk goP L) else .error 22
def qnP (L:List Nat):Except Nat Nat:=
 match nmP L with
 | .error e => .error e
 | .ok n=>if [58] <+: L.drop n then (match nmP (L.drop (n+1)) with
   | .error e => .error e
   | .ok m => .ok (n+1+m)) else .ok n
def upP (s L:List Nat):Except Nat Nat:=
 match ix s L with
 | none => .error 22
 | some i => .ok i
def flat (L:List Nat):List Nat:=L.map fun c=>if c=9∨c=10 then 32 else c
def plP (T:List Nat):Except Nat (List Nat):=if 60∈T then .error 22 else match told (flat T) with
 | none => .error 22
 | some v => .ok v
def quP (q:Nat) (L:List Nat):Except Nat (List Nat × Nat):=
 match upP [q] L with
 | .error e => .error e
 | .ok i=>match plP (L.take i) with
  | .error e => .error e
  | .ok v => .ok (v,i+1)
def vlP (L:List Nat):Except Nat (List Nat × Nat):=
 if [61] <+: L.drop (sk blaP L) then
  (if [39] <+: L.drop (sk blaP L+1+sk blaP (L.drop (sk blaP L+1))) then (match quP 39 (L.drop (sk blaP L+1+sk blaP (L.drop (sk blaP L+1))+1)) with
   | .error e => .error e
   | .ok (v,n) => .ok (v,sk blaP L+1+sk blaP (L.drop (sk blaP L+1))+1+n))
  else if [34] <+: L.drop (sk blaP L+1+sk blaP (L.drop (sk blaP L+1))) then (match quP 34 (L.drop (sk blaP L+1+sk blaP (L.drop (sk blaP L+1))+1)) with
   | .error e => .error e
   | .ok (v,n) => .ok (v,sk blaP L+1+sk blaP (L.drop (sk blaP L+1))+1+n))
  else .error 22)
 else .error 22
def onP (L:List Nat):Except Nat ((List Nat × List Nat) × Nat):=
 match qnP L with
 | .error e => .error e
 | .ok n=>match vlP (L.drop n) with
  | .error e => .error e
  | .ok (v,m) => .ok ((L.take n,v),n+m)
abbrev At:=List Nat × List Nat
def atF:Nat→List At→List Nat→Except Nat (List At × Nat)
 | 0,acc,_ => .ok (acc,0)
 | f+1,acc,L=>
  if sk blaP L=0 then .ok (acc,0)
  else if begP (nx (L.drop (sk blaP L))).1=true then (match onP (L.drop (sk blaP L)) with
   | .error e => .error e
   | .ok (a,n)=>if a.1∈acc.map Prod.fst then .error 22 else if 256<acc.length+1 then .error 14 else (match atF f (acc++[a]) (L.drop (sk blaP L+n)) with
    | .error e => .error e
    | .ok (l,m) => .ok (l,sk blaP L+n+m)))
  else .ok (acc,sk blaP L)
def atP (L:List Nat):Except Nat (List At × Nat):=atF L.length [] L
def md3:List At→Option Nat
 | []=>none
 | _::_=>some 22
def md2 (l:List At):Option Nat:=
 match l with
 | []=>none
 | (n,v)::t=>if n=[115,116,97,110,100,97,108,111,110,101] then (if v=[121,101,115]∨v=[110,111] then md3 t else some 22) else md3 l
def low (c:Nat):Nat:=if 65≤c∧c≤90 then c+32 else c
def md1 (l:List At):Option Nat:=
 match l with
 | []=>none
 | (n,v)::t=>if n=[101,110,99,111,100,105,110,103] then (if v.map low=[117,116,102,45,56] then md2 t else some 17) else md2 l
def mdP (l:List At):Option Nat:=
 match l with
 | []=>some 22
 | (n,v)::t=>if n=[118,101,114,115,105,111,110]∧v=[49,46,48] then md1 t else some 22
structure Tk where
 k:Nat
 n:List Nat
 t:List Nat
 a:List At
 e:Bool
def dcP (L:List Nat):Except Nat (Tk × Nat):=
 match atP L with
 | .error e => .error e
 | .ok (l,n)=>if [63,62] <+: L.drop n then (match mdP l with
  | some e => .error e
  | none => .ok (⟨1,[],[],l,false⟩,n+2)) else .error 22
def piP (L:List Nat):Except Nat (Tk × Nat):=
 match nmP L with
 | .error e => .error e
 | .ok n=>if (L.take n).map low=[120,109,108] then .error 22
  else if sk blaP (L.drop n)=0∧¬[63,62] <+: L.drop n then .error 22
  else (match upP [63,62] (L.drop (n+sk blaP (L.drop n))) with
   | .error e => .error e
   | .ok i => .ok (⟨2,L.take n,(L.drop (n+sk blaP (L.drop n))).take i,[],false⟩,n+sk blaP (L.drop n)+i+2))
def rmP (L:List Nat):Except Nat (Tk × Nat):=
 match upP [45,45] L with
 | .error e => .error e
 | .ok i=>if [62] <+: L.drop (i+2) then .ok (⟨3,[],L.take i,[],false⟩,i+2+1) else .error 22
def rwP (L:List Nat):Except Nat (Tk × Nat):=
 match upP [93,93,62] L with
 | .error e => .error e
 | .ok i => .ok (⟨4,[],L.take i,[],false⟩,i+3)
def enP (L:List Nat):Except Nat (Tk × Nat):=
 match qnP L with
 | .error e => .error e
 | .ok n=>if [62] <+: L.drop (n+sk blaP (L.drop n)) then .ok (⟨6,L.take n,[],[],false⟩,n+sk blaP (L.drop n)+1) else .error 22
def bgP (L:List Nat):Except Nat (Tk × Nat):=
 match qnP L with
 | .error e => .error e
 | .ok n=>match atP (L.drop n) with
  | .error e => .error e
  | .ok (l,m)=>if [47] <+: L.drop (n+m) then (if [62] <+: L.drop (n+m+1) then .ok (⟨5,L.take n,[],l,true⟩,n+m+1+1) else .error 22)
   else if [62] <+: L.drop (n+m) then .ok (⟨5,L.take n,[],l,false⟩,n+m+1) else .error 22
def wdN (L:List Nat):Nat:=match ix [60] L with
 | none=>L.length
 | some i=>i
def wdP (L:List Nat):Except Nat (Tk × Nat):=
 if (ix [93,93,62] (L.take (wdN L))).isSome=true then .error 22 else match told (L.take (wdN L)) with
  | none => .error 22
  | some v => .ok (⟨4,[],v,[],false⟩,wdN L)
def plus (n:Nat):Except Nat (Tk × Nat)→Except Nat (Tk × Nat)
 | .error e => .error e
 | .ok (t,m) => .ok (t,n+m)
def isDc (first:Bool) (L:List Nat):Prop:=first=true∧[60,63,120,109,108] <+: L∧blaP (nx (L.drop 5)).1=true
instance (first:Bool) (L:List Nat):Decidable (isDc first L):=by unfold isDc;infer_instance
def tkP (first:Bool) (L:List Nat):Except Nat (Tk × Nat):=
 if isDc first L then plus 5 (dcP (L.drop 5))
 else if [60,63] <+: L then plus 2 (piP (L.drop 2))
 else if [60,33,45,45] <+: L then plus 4 (rmP (L.drop 4))
 else if [60,33,91,67,68,65,84,65,91] <+: L then plus 9 (rwP (L.drop 9))
 else if [60,33] <+: L then .error 17
 else if [60,47] <+: L then plus 2 (enP (L.drop 2))
 else if [60] <+: L then plus 1 (bgP (L.drop 1))
 else wdP L
def tsF:Nat→Nat→List Nat→Except (Nat × Nat) (List (Tk × Nat))
 | 0,_,_ => .ok []
 | f+1,at_,L=>if L=[] then .ok [] else match tkP (at_ == 0) L with
  | .error e => .error (at_,e)
  | .ok (t,n)=>match tsF f (at_+n) (L.drop n) with
   | .error e => .error e
   | .ok l => .ok ((t,at_)::l)
def tsP (L:List Nat):Except (Nat × Nat) (List (Tk × Nat)):=tsF L.length 0 L
def scP (b:List Nat):Except (Nat × Nat) (List (Tk × Nat)):=
 match al charP (stripP b) 0 with
 | some k => .error (k,22)
 | none=>tsP (lin false (stripP b))
theorem pre1 {x:Nat} {L:List Nat}:[x] <+: L↔∃ t,L=x::t:=by
 constructor
 ·rintro ⟨t,rfl⟩;exact ⟨t,rfl⟩
 ·rintro ⟨t,rfl⟩;exact ⟨t,rfl⟩
theorem pre_le {s L:List Nat} {n:Nat} (hs:s≠[]) (h:s <+: L.drop n):n+s.length≤L.length:=by
 have h1:=h.length_le
 have h2:=List.length_pos_iff.2 hs
 rw [List.length_drop] at h1
 omega
theorem beg_go0 {v:Nat} (h:begP v=true):goP v=true:=by
 unfold goP goesP
 rw [show wth beginsL (v:Int)=true from h]
 rfl
theorem nmP_ok {L:List Nat} {n:Nat} (hb:Bs L) (h:nmP L = .ok n):0<n∧n≤L.length:=by
 unfold nmP at h
 split at h
 ·rename_i hp
  injection h with h
  subst h
  refine ⟨?_,sk_len goP_zero hb⟩
  have hg:=beg_go0 hp
  have:=(nx_zero goP_zero hg).1
  rw [sk_yes goP_zero hg];omega
 ·cases h
theorem qnP_ok {L:List Nat} {n:Nat} (hb:Bs L) (h:qnP L = .ok n):0<n∧n≤L.length:=by
 unfold qnP at h
 rcases h1:nmP L with e | m
 ·rw [h1] at h;cases h
 ·rw [h1] at h
  simp only at h
  obtain ⟨a1,a2⟩:=nmP_ok hb h1
  split at h
  ·rename_i hp
   have h58:=pre_le (by simp) hp
   rcases h2:nmP (L.drop (m+1)) with e | k
   ·rw [h2] at h;cases h
   ·rw [h2] at h
    injection h with h
    obtain ⟨b1,b2⟩:=nmP_ok (hb.drop _) h2
    rw [List.length_drop] at b2
    simp at h58
    omega
  ·injection h with h;omega
theorem upP_ok {s L:List Nat} {n:Nat} (h:upP s L = .ok n):n+s.length≤L.length:=by
 unfold upP at h
 rcases h1:ix s L with _ | i
 ·rw [h1] at h;cases h
 ·rw [h1] at h;injection h with h;subst h;exact ix_le h1
theorem quP_ok {q:Nat} {L:List Nat} {v:List Nat} {n:Nat} (h:quP q L = .ok (v,n)):0<n∧n≤L.length:=by
 unfold quP at h
 rcases h1:upP [q] L with e | i
 ·rw [h1] at h;cases h
 ·rw [h1] at h
  simp only at h
  have:=upP_ok h1
  rcases h2:plP (L.take i) with e | x
  ·rw [h2] at h;cases h
  ·rw [h2] at h;injection h with h;injection h with h3 h4;simp at this;omega
theorem vlP_ok {L:List Nat} {v:List Nat} {n:Nat} (h:vlP L = .ok (v,n)):0<n∧n≤L.length:=by
 unfold vlP at h
 split at h
 ·generalize hB:sk blaP L+1+sk blaP (L.drop (sk blaP L+1))=B at h
  split at h
  ·rename_i hp
   have h0:=pre_le (by simp) hp
   rcases h2:quP 39 (L.drop (B+1)) with e | ⟨x,m⟩
   ·rw [h2] at h;cases h
   ·rw [h2] at h;injection h with h;injection h with h3 h4
    have:=quP_ok h2
    rw [List.length_drop] at this
    simp at h0
    omega
  ·split at h
   ·rename_i hp
    have h0:=pre_le (by simp) hp
    rcases h2:quP 34 (L.drop (B+1)) with e | ⟨x,m⟩
    ·rw [h2] at h;cases h
    ·rw [h2] at h;injection h with h;injection h with h3 h4
     have:=quP_ok h2
     rw [List.length_drop] at this
     simp at h0
     omega
   ·cases h
 ·cases h
theorem onP_ok {L:List Nat} {a:At} {n:Nat} (hb:Bs L) (h:onP L = .ok (a,n)):0<n∧n≤L.length:=by
 unfold onP at h
 rcases h1:qnP L with e | i
 ·rw [h1] at h;cases h
 ·rw [h1] at h
  simp only at h
  obtain ⟨a1,a2⟩:=qnP_ok hb h1
  rcases h2:vlP (L.drop i) with e | ⟨x,m⟩
  ·rw [h2] at h;cases h
  ·rw [h2] at h;injection h with h;injection h with h3 h4
   have:=vlP_ok h2
   rw [List.length_drop] at this
   omega
theorem atF_fuel:∀ (f g:Nat) (acc:List At) (L:List Nat),Bs L→L.length≤f→L.length≤g→atF f acc L=atF g acc L
 | 0,0,_,_,_,_,_=>rfl
 | 0,g+1,acc,L,_,h,_=>by
  have:L=[]:=List.eq_nil_of_length_eq_zero (by omega)
  subst this
  rw [atF,atF,if_pos (show sk blaP []=0 from rfl)]
 | f+1,0,acc,L,_,_,h=>by
  have:L=[]:=List.eq_nil_of_length_eq_zero (by omega)
  subst this
  rw [atF,atF,if_pos (show sk blaP []=0 from rfl)]
 | f+1,g+1,acc,L,hb,h,h'=>by
  unfold atF
  by_cases h0:sk blaP L=0
  ·rw [if_pos h0,if_pos h0]
  rw [if_neg h0,if_neg h0]
  by_cases hp:begP (nx (L.drop (sk blaP L))).1=true
  ·rw [if_pos hp,if_pos hp]
   rcases h1:onP (L.drop (sk blaP L)) with e | ⟨a,n⟩
   ·rfl
   ·simp only
    have h2:=onP_ok (hb.drop _) h1
    rw [List.length_drop] at h2
    rw [atF_fuel f g (acc++[a]) (L.drop (sk blaP L+n)) (hb.drop _) (by rw [List.length_drop];omega) (by rw [List.length_drop];omega)]
  ·rw [if_neg hp,if_neg hp]
def atA (acc:List At) (L:List Nat):Except Nat (List At × Nat):=atF L.length acc L
theorem atA_step (acc:List At) {L:List Nat} (hb:Bs L):atA acc L =
  if sk blaP L=0 then .ok (acc,0)
  else if begP (nx (L.drop (sk blaP L))).1=true then (match onP (L.drop (sk blaP L)) with
   | .error e => .error e
   | .ok (a,n)=>if a.1∈acc.map Prod.fst then .error 22 else if 256<acc.length+1 then .error 14 else (match atA (acc++[a]) (L.drop (sk blaP L+n)) with
    | .error e => .error e
    | .ok (l,m) => .ok (l,sk blaP L+n+m)))
  else .ok (acc,sk blaP L):=by
 unfold atA
 cases hl:L.length with
 | zero=>
  have:L=[]:=List.eq_nil_of_length_eq_zero hl
  subst this
  rw [atF,if_pos (show sk blaP []=0 from rfl)]
 | succ k=>
  rw [atF]
  by_cases h0:sk blaP L=0
  ·rw [if_pos h0,if_pos h0]
  rw [if_neg h0,if_neg h0]
  by_cases hp:begP (nx (L.drop (sk blaP L))).1=true
  ·rw [if_pos hp,if_pos hp]
   rcases h1:onP (L.drop (sk blaP L)) with e | ⟨a,n⟩
   ·rfl
   ·simp only
    have h2:=onP_ok (hb.drop _) h1
    rw [List.length_drop] at h2
    rw [atF_fuel k _ (acc++[a]) (L.drop (sk blaP L+n)) (hb.drop _) (by rw [List.length_drop];omega) (Nat.le_refl _)]
  ·rw [if_neg hp,if_neg hp]
theorem atA_ok:∀ (n:Nat) (acc:List At) (L:List Nat) (l:List At) (m:Nat),L.length≤n→Bs L→atA acc L = .ok (l,m)→m≤L.length
 | n,acc,L,l,m,hn,hb,h=>by
  rw [atA_step acc hb] at h
  have hsk:=sk_len blaP_zero hb
  by_cases h0:sk blaP L=0
  ·rw [if_pos h0] at h;injection h with h;injection h with h1 h2;omega
  rw [if_neg h0] at h
  by_cases hp:begP (nx (L.drop (sk blaP L))).1=true
  ·rw [if_pos hp] at h
   rcases h1:onP (L.drop (sk blaP L)) with e | ⟨a,k⟩
   ·rw [h1] at h;cases h
   ·rw [h1] at h
    simp only at h
    have h2:=onP_ok (hb.drop _) h1
    rw [List.length_drop] at h2
    split at h
    ·cases h
    split at h
    ·cases h
    rcases h3:atA (acc++[a]) (L.drop (sk blaP L+k)) with e | ⟨l2,m2⟩
    ·rw [h3] at h;cases h
    ·rw [h3] at h
     injection h with h;injection h with h4 h5
     cases n with
     | zero=>omega
     | succ n=>
      have:=atA_ok n (acc++[a]) (L.drop (sk blaP L+k)) l2 m2 (by rw [List.length_drop];omega) (hb.drop _) h3
      rw [List.length_drop] at this
      omega
  ·rw [if_neg hp] at h;injection h with h;injection h with h1 h2;omega
theorem atP_ok {L:List Nat} {l:List At} {m:Nat} (hb:Bs L) (h:atP L = .ok (l,m)):m≤L.length:=atA_ok L.length [] L l m (Nat.le_refl _) hb h
theorem wdN_le (L:List Nat):wdN L≤L.length:=by
 unfold wdN
 split
 ·exact Nat.le_refl _
 ·rename_i i h
  have:=ix_le h
  simp at this
  omega
theorem plus_ok {n:Nat} {r:Except Nat (Tk × Nat)} {t:Tk} {m:Nat} (h:plus n r = .ok (t,m)):∃ k,r = .ok (t,k)∧m=n+k:=by
 rcases r with e | ⟨t',k⟩
 ·cases h
 ·injection h with h;injection h with h1 h2
  exact ⟨k,by rw [h1],h2.symm⟩
theorem tkP_ok {first:Bool} {L:List Nat} {t:Tk} {m:Nat} (hb:Bs L) (hne:L≠[]) (h:tkP first L = .ok (t,m)):0<m∧m≤L.length:=by
 have hl:=List.length_pos_iff.2 hne
 unfold tkP at h
 split at h
 ·rename_i hd
  obtain ⟨k,h1,rfl⟩:=plus_ok h
  have h5:=hd.2.1.length_le
  simp at h5
  unfold dcP at h1
  rcases h2:atP (L.drop 5) with e | ⟨l,n⟩
  ·rw [h2] at h1;cases h1
  ·rw [h2] at h1
   simp only at h1
   split at h1
   ·rename_i hp
    have h3:=pre_le (by simp) hp
    rcases h4:mdP l with _ | e
    ·rw [h4] at h1;injection h1 with h1;injection h1 with _ h6
     rw [List.length_drop] at h3;simp at h3;omega
    ·rw [h4] at h1;cases h1
   ·cases h1
 split at h
 ·rename_i hp
  obtain ⟨k,h1,rfl⟩:=plus_ok h
  have h5:=hp.length_le
  simp at h5
  unfold piP at h1
  rcases h2:nmP (L.drop 2) with e | n
  ·rw [h2] at h1;cases h1
  ·rw [h2] at h1
   simp only at h1
   split at h1
   ·cases h1
   split at h1
   ·cases h1
   generalize sk blaP ((L.drop 2).drop n)=s at h1
   rcases h3:upP [63,62] ((L.drop 2).drop (n+s)) with e | i
   ·rw [h3] at h1;cases h1
   ·rw [h3] at h1;injection h1 with h1;injection h1 with _ h6
    have:=upP_ok h3
    rw [List.length_drop,List.length_drop] at this
    simp at this
    omega
 split at h
 ·rename_i hp
  obtain ⟨k,h1,rfl⟩:=plus_ok h
  have h5:=hp.length_le
  simp at h5
  unfold rmP at h1
  rcases h2:upP [45,45] (L.drop 4) with e | i
  ·rw [h2] at h1;cases h1
  ·rw [h2] at h1
   simp only at h1
   split at h1
   ·rename_i hq
    have h3:=pre_le (by simp) hq
    injection h1 with h1;injection h1 with _ h6
    rw [List.length_drop] at h3;simp at h3;omega
   ·cases h1
 split at h
 ·rename_i hp
  obtain ⟨k,h1,rfl⟩:=plus_ok h
  have h5:=hp.length_le
  simp at h5
  unfold rwP at h1
  rcases h2:upP [93,93,62] (L.drop 9) with e | i
  ·rw [h2] at h1;cases h1
  ·rw [h2] at h1;injection h1 with h1;injection h1 with _ h6
   have:=upP_ok h2
   rw [List.length_drop] at this
   simp at this
   omega
 split at h
 ·cases h
 split at h
 ·rename_i hp
  obtain ⟨k,h1,rfl⟩:=plus_ok h
  have h5:=hp.length_le
  simp at h5
  unfold enP at h1
  rcases h2:qnP (L.drop 2) with e | n
  ·rw [h2] at h1;cases h1
  ·rw [h2] at h1
   simp only at h1
   generalize sk blaP ((L.drop 2).drop n)=s at h1
   split at h1
   ·rename_i hq
    have h3:=pre_le (by simp) hq
    injection h1 with h1;injection h1 with _ h6
    rw [List.length_drop] at h3;simp at h3;omega
   ·cases h1
 split at h
 ·rename_i hp
  obtain ⟨k,h1,rfl⟩:=plus_ok h
  unfold bgP at h1
  rcases h2:qnP (L.drop 1) with e | n
  ·rw [h2] at h1;cases h1
  ·rw [h2] at h1
   simp only at h1
   rcases h3:atP ((L.drop 1).drop n) with e | ⟨l,s⟩
   ·rw [h3] at h1;cases h1
   ·rw [h3] at h1
    simp only at h1
    split at h1
    ·split at h1
     ·rename_i hq
      have h3:=pre_le (by simp) hq
      injection h1 with h1;injection h1 with _ h6
      rw [List.length_drop] at h3;simp at h3;omega
     ·cases h1
    ·split at h1
     ·rename_i hq
      have h3:=pre_le (by simp) hq
      injection h1 with h1;injection h1 with _ h6
      rw [List.length_drop] at h3;simp at h3;omega
     ·cases h1
 ·rename_i hn
  unfold wdP at h
  split at h
  ·cases h
  rcases h2:told (L.take (wdN L)) with _ | v
  ·rw [h2] at h;cases h
  ·rw [h2] at h;injection h with h;injection h with _ h6
   subst h6
   refine ⟨?_,wdN_le L⟩
   rcases Nat.eq_zero_or_pos (wdN L) with e | e
   ·exfalso
    unfold wdN at e
    rcases hi:ix [60] L with _ | i
    ·rw [hi] at e;simp only at e;omega
    ·rw [hi] at e
     simp only at e
     subst e
     have:=(ix_some hi).2
     rw [List.drop_zero] at this
     exact hn this
   ·exact e
theorem tsF_fuel:∀ (f g k:Nat) (L:List Nat),Bs L→L.length≤f→L.length≤g→tsF f k L=tsF g k L
 | 0,0,_,_,_,_,_=>rfl
 | 0,g+1,k,L,_,h,_=>by
  have:L=[]:=List.eq_nil_of_length_eq_zero (by omega)
  subst this;rw [tsF,tsF,if_pos rfl]
 | f+1,0,k,L,_,_,h=>by
  have:L=[]:=List.eq_nil_of_length_eq_zero (by omega)
  subst this;rw [tsF,tsF,if_pos rfl]
 | f+1,g+1,k,L,hb,h,h'=>by
  unfold tsF
  by_cases h0:L=[]
  ·rw [if_pos h0,if_pos h0]
  rw [if_neg h0,if_neg h0]
  rcases h1:tkP (k == 0) L with e | ⟨t,n⟩
  ·rfl
  ·simp only
   have:=tkP_ok hb h0 h1
   rw [tsF_fuel f g _ (L.drop n) (hb.drop _) (by rw [List.length_drop];omega) (by rw [List.length_drop];omega)]
def tsA (k:Nat) (L:List Nat):Except (Nat × Nat) (List (Tk × Nat)):=tsF L.length k L
theorem tsA_nil (k:Nat):tsA k [] = .ok []:=rfl
theorem tsA_step (k:Nat) {L:List Nat} (hb:Bs L) (hne:L≠[]):tsA k L=match tkP (k == 0) L with
  | .error e => .error (k,e)
  | .ok (t,n)=>match tsA (k+n) (L.drop n) with
   | .error e => .error e
   | .ok l => .ok ((t,k)::l):=by
 have hl:=List.length_pos_iff.2 hne
 obtain ⟨m,hm⟩:∃ m,L.length=m+1:=⟨L.length-1,by omega⟩
 unfold tsA
 rw [hm,tsF,if_neg hne]
 rcases h1:tkP (k == 0) L with e | ⟨t,n⟩
 ·rfl
 ·simp only
  have:=tkP_ok hb hne h1
  rw [tsF_fuel m _ _ (L.drop n) (hb.drop _) (by rw [List.length_drop];omega) (Nat.le_refl _)]
def fold1 (c:Nat):Nat:=if 65≤c∧c≤90 then c+32 else if 97≤c∧c≤122∧c≠107∧c≠115 then c-32 else c
structure TT (w:World):Prop where
 tu:TU w
 fold:∀ c,c<107∨(c<123∧108≤c∧c≠115)→w.cell? ⟨3,c,none⟩=some (.int .u16 (fold1 c:Nat))
 err:∃ ev,w.cell? ⟨6,0,none⟩=some ev∧(ev = .nilIface∨∃ te pe,ev = .iface te pe)
theorem TT.low {w w':World} (h:TT w) (hb:Below 7 w w'):TT w':=by
 refine ⟨⟨⟨fun c hc=>(hb.cell (p:=⟨1,c,none⟩) (show 1<7 by decide)).trans (h.tu.utf.1 c hc),fun i hi=>⟨(hb.cell (p:=⟨2,2*i,none⟩) (show 2<7 by decide)).trans (h.tu.utf.2 i hi).1,(hb.cell (p:=⟨2,2*i+1,none⟩) (show 2<7 by decide)).trans (h.tu.utf.2 i hi).2⟩⟩,?_⟩,fun c hc=>(hb.cell (p:=⟨3,c,none⟩) (show 3<7 by decide)).trans (h.fold c hc),?_⟩
 ·obtain ⟨m,hm⟩:=h.tu.len
  exact ⟨m,(hb.cell (p:=⟨0,0,none⟩) (by decide)).trans hm⟩
 ·obtain ⟨ev,he,h2⟩:=h.err
  exact ⟨ev,(hb.cell (p:=⟨6,0,none⟩) (by decide)).trans he,h2⟩
theorem TT.size {w:World} (h:TT w):7≤w.heap.size:=by
 obtain ⟨ev,he,_⟩:=h.err
 have:6<w.heap.size:=World.block_lt_of_cell? w _ he
 omega
theorem TT.grow {w w':World} (h:TT w) (hb:Below w.heap.size w w'):TT w':=h.low (hb.mono h.size)
structure Scn (w:World) (p:Nat) (ao:Option Addr) (c:Nat) (xs:List Nat) (bg k:Nat):Prop where
 blk:Blk w p 51 #[.slice ao xs.length c,.int .i64 (bg:Nat),.int .i64 (k:Nat)]
 sl:Sl w ao c xs
 le:k≤xs.length
 low:7≤p
 far:∀ ad,ao=some ad→xs≠[]→ad.block≠p
 tt:TT w
 len:xs.length≤1000000
section
variable {w w':World} {p:Nat} {ao:Option Addr} {c:Nat} {xs:List Nat} {bg k:Nat}
theorem Scn.c0 (h:Scn w p ao c xs bg k):w.cell? ⟨p,0,none⟩=some (.slice ao xs.length c):=(h.blk.cell 0).trans rfl
theorem Scn.c1 (h:Scn w p ao c xs bg k):w.cell? ⟨p,1,none⟩=some (.int .i64 (bg:Nat)):=(h.blk.cell 1).trans rfl
theorem Scn.c2 (h:Scn w p ao c xs bg k):w.cell? ⟨p,2,none⟩=some (.int .i64 (k:Nat)):=(h.blk.cell 2).trans rfl
theorem Scn.bs (h:Scn w p ao c xs bg k):Bs xs:=h.sl.bs
theorem Scn.lt (h:Scn w p ao c xs bg k):p<w.heap.size:=h.blk.lt
theorem Scn.mv (h:Scn w p ao c xs bg k) {bg' k':Nat} (ht:Touch (fun i=>i=p) w w') (hb:Blk w' p 51 #[.slice ao xs.length c,.int .i64 (bg':Nat),.int .i64 (k':Nat)]) (hk:k'≤xs.length):Scn w' p ao c xs bg' k':=
 ⟨hb,⟨h.sl.src.touch ht fun b off e hne hs=>h.far _ e hne hs,h.sl.le,h.sl.big,h.sl.nil,h.sl.bs⟩,hk,h.low,h.far,h.tt.low (ht.below h.tt.size fun i hi=>by rw [hi];exact h.low),h.len⟩
theorem Scn.below (h:Scn w p ao c xs bg k) (hb:Below w.heap.size w w'):Scn w' p ao c xs bg k:=
 h.mv (Touch.of_below hb) (h.blk.below hb) h.le
theorem Scn.set2 (h:Scn w p ao c xs bg k) (k':Nat) (hk:k'≤xs.length):Scn (w.setCell ⟨p,2,none⟩ (.int .i64 (k':Nat))) p ao c xs bg k':=
 h.mv ((Touch.refl _ w).setCell _ _ (.inl rfl)) (h.blk.setCell 2 _) hk
theorem Scn.set1 (h:Scn w p ao c xs bg k) (bg':Nat):Scn (w.setCell ⟨p,1,none⟩ (.int .i64 (bg':Nat))) p ao c xs bg' k:=
 h.mv ((Touch.refl _ w).setCell _ _ (.inl rfl)) (h.blk.setCell 1 _) h.le
theorem touch_set (p i:Nat) (w:World) (v:Value):Touch (fun i=>i=p) w (w.setCell ⟨p,i,none⟩ v):=(Touch.refl _ w).setCell _ _ (.inl rfl)
end
abbrev kpan (er:Nat):Ending := .panicked [{ v := .iface 80 (.int .i64 (er:Nat)),recovered:=false }]
theorem must_yes (er:Int) (w:World):Calls Tryz.prog 97 #[.bool true,.int .i64 er] w fun e w'=>e = .returned (.tuple #[])∧w=w':=by
 go_enter Tryz.func97,Tryz.ntmps97
 go_wp2
 go_end0
 exact ⟨rfl,rfl⟩
theorem must_no (er:Nat) (w:World):Calls Tryz.prog 97 #[.bool false,.int .i64 (er:Nat)] w fun e w'=>e=kpan er∧w=w':=by
 go_enter Tryz.func97,Tryz.ntmps97
 go_wp2
 exact ⟨rfl,rfl,rfl⟩
section
variable (w:World) (p:Nat) (ao:Option Addr) (c:Nat) (xs:List Nat) (bg k:Nat)
set_option maxHeartbeats 1600000 in
theorem begins_any (h:Scn w p ao c xs bg k) :
  Calls Tryz.prog 122 #[.pointer (some ⟨p,0,none⟩)] w fun e w'=>e = .returned (.bool (begP (nx (xs.drop k)).1))∧Below w.heap.size w w':=by
 have p0:=h.c0
 have p2:=h.c2
 have hd:Below w.heap.size w w.drew:=below_drewN (Below.refl _ w) 1
 have K:=Next_any ao c xs k w.drew (h.sl.below hd) (h.tt.tu.grow hd)
 rw [nxF_nat] at K
 have HP:=h.lt
 obtain ⟨v,n,hvn⟩:∃ v n,nx (xs.drop k)=(v,n):=⟨_,_,rfl⟩
 rw [hvn] at K ⊢
 simp only at K ⊢
 have K:=Lib.hid K
 have HD:=Lib.hid hd
 have HG:=Lib.hid fun W=>Begins_any (v:Int) W
 rw [show wth beginsL (v:Int)=begP v from rfl] at HG
 generalize begP v=z at HG ⊢
 have AF:Hid (∀ W,Below w.heap.size w W→(fun W=>W.cell? ⟨p,0,none⟩=some (.slice ao xs.length c)∧W.cell? ⟨p,2,none⟩=some (.int .i64 (k:Nat))) W):=Lib.hid fun W hW=>⟨(hW.cell HP).trans p0,(hW.cell HP).trans p2⟩
 clear h hvn hd
 go_enter Tryz.func122,Tryz.ntmps122
 go_upto_region 1 with fail
 go_region_held3 (fun W=>W.cell? ⟨p,0,none⟩=some (.slice ao xs.length c)∧W.cell? ⟨p,2,none⟩=some (.int .i64 (k:Nat))) (exact AF.out _ (by first | with_reducible exact HB.out | with_reducible exact HD.out)) (first
  | (go_at_call 65;(with_reducible refine K.out.mono ?_);rintro e w1 ⟨rfl,hb1⟩;have HB:=Lib.hid (HD.out.trans (hb1.mono HD.out.size));clear hb1))
 go_wp2_with (go_at_call 140;(with_reducible refine (HG.out w1).mono ?_);rintro e w2 ⟨rfl,hb2⟩;have HB2:=Lib.hid (HB.out.trans (hb2.mono HB.out.size));clear hb2)
 go_ret
 exact ⟨rfl,HB2.out⟩
end
set_option maxHeartbeats 3200000 in
theorem skip_bla (w:World) (p:Nat) (ao:Option Addr) (c:Nat) (xs:List Nat) (bg k:Nat) (h:Scn w p ao c xs bg k) :
  Calls Tryz.prog 123 #[.pointer (some ⟨p,0,none⟩),.func (.func 95) #[] #[]] w fun e w'=>e = .returned (.tuple #[])∧Touch (fun i=>i=p) w w'∧Scn w' p ao c xs bg (k+sk blaP (xs.drop k)):=by
 have hlen:=h.len
 have H:=Lib.hid h
 obtain ⟨E,hE⟩:∃ E,E=k+sk blaP (xs.drop k):=⟨_,rfl⟩
 rw [←hE]
 have HE:=Lib.hid hE
 clear hE h
 go_enter Tryz.func123,Tryz.ntmps123
 go_wp2
 go_loopg [] xs.length (fun gh wr=>∃ j:Nat,j≤xs.length∧xs.length-j≤gh∧Hid (Scn wr p ao c xs bg j)∧Hid (Touch (fun i=>i=p) w wr)∧Hid (E=j+sk blaP (xs.drop j)))
 case atStart=>exact ⟨k,H.out.le,by omega,H,Lib.hid (Touch.refl _ _),HE⟩
 case round=>
  obtain ⟨j,hj,hgh,hsc,hto,hst⟩:=hrel
  have p0:=hsc.out.c0
  have p2:=hsc.out.c2
  have HP:=hsc.out.lt
  have hd:Below wr.heap.size wr wr.drew:=below_drewN (Below.refl _ wr) 1
  have K:=Next_any ao c xs j wr.drew (hsc.out.sl.below hd) (hsc.out.tt.tu.grow hd)
  rw [nxF_nat] at K
  have hn4:=nx_le4 (xs.drop j) (hsc.out.bs.drop j)
  rw [List.length_drop] at hn4
  obtain ⟨v,n,hvn⟩:∃ v n,nx (xs.drop j)=(v,n):=⟨_,_,rfl⟩
  have HVN:=Lib.hid hvn
  rw [hvn] at K hn4
  simp only at K hn4
  have K:=Lib.hid K
  have HN4:=Lib.hid hn4
  have HD:=Lib.hid hd
  have HG:=Lib.hid fun W=>Blank_any (v:Int) W
  rw [show wth blankL (v:Int)=blaP v from rfl] at HG
  obtain ⟨z,hz⟩:∃ z,z=blaP v:=⟨_,rfl⟩
  rw [←hz] at HG
  have HZ:=Lib.hid hz
  have AF:Hid (∀ W,Below wr.heap.size wr W→(fun W=>W.cell? ⟨p,0,none⟩=some (.slice ao xs.length c)∧W.cell? ⟨p,2,none⟩=some (.int .i64 (j:Nat))) W):=Lib.hid fun W hW=>⟨(hW.cell HP).trans p0,(hW.cell HP).trans p2⟩
  clear hvn hd hn4 hz
  cases z with
  | false=>
   have HR:Hid (E=j):=Lib.hid (by rw [hst.out,sk_no (by rw [HVN.out];exact HZ.out.symm),Nat.add_zero])
   go_upto_region 0 with fail
   go_region_held3 (fun W=>W.cell? ⟨p,0,none⟩=some (.slice ao xs.length c)∧W.cell? ⟨p,2,none⟩=some (.int .i64 (j:Nat))) (exact AF.out _ (by first | with_reducible exact HB.out | with_reducible exact HD.out)) (first
    | (go_at_call 65;(with_reducible refine K.out.mono ?_);rintro e w1 ⟨rfl,hb1⟩;have HB:=Lib.hid (HD.out.trans (hb1.mono HD.out.size));clear hb1))
   go_wp2_with (go_at_call 95;(with_reducible refine (HG.out w1).mono ?_);rintro e w2 ⟨rfl,hb2⟩;have HB2:=Lib.hid (HB.out.trans (hb2.mono HB.out.size));clear hb2)
   refine bodyPost_ret (results_none rfl _ _ _) rfl ?_
   exact ⟨rfl,hto.out.trans (Touch.of_below HB2.out),by rw [HR.out];exact hsc.out.below HB2.out⟩
  | true=>
   have hp:blaP (nx (xs.drop j)).1=true:=by rw [HVN.out];exact HZ.out.symm
   have hn0:=(nx_zero blaP_zero hp).1
   rw [HVN.out] at hn0
   simp only at hn0
   have hnl:=HN4.out.2.1
   obtain ⟨t,ht⟩:∃ t,t=j+n:=⟨_,rfl⟩
   have hsum:IntKind.i64.wrap ((j:Int)+n)=(t:Int):=by rw [IntKind.wrap_i64];omega
   have htl:t≤xs.length:=by omega
   have htj:j<t:=by omega
   have HR:Hid (E=t+sk blaP (xs.drop t)):=Lib.hid (by rw [hst.out,sk_yes blaP_zero hp,HVN.out,List.drop_drop,ht];simp only;omega)
   clear hp hn0 hnl ht
   go_upto_region 0 with fail
   go_region_held3 (fun W=>W.cell? ⟨p,0,none⟩=some (.slice ao xs.length c)∧W.cell? ⟨p,2,none⟩=some (.int .i64 (j:Nat))) (exact AF.out _ (by first | with_reducible exact HB.out | with_reducible exact HD.out)) (first
    | (go_at_call 65;(with_reducible refine K.out.mono ?_);rintro e w1 ⟨rfl,hb1⟩;have HB:=Lib.hid (HD.out.trans (hb1.mono HD.out.size));clear hb1))
   go_wp2_with (go_at_call 95;(with_reducible refine (HG.out w1).mono ?_);rintro e w2 ⟨rfl,hb2⟩;have hb:=HB.out.trans (hb2.mono HB.out.size);have HS2:=Lib.hid (hsc.out.below hb);have p2:=HS2.out.c2;have f2:=HS2.out.blk.free 2;have HB2:=Lib.hid hb;clear hb2 hb)
   go_roundg (xs.length-t)
   case measure=>omega
   case rel=>exact ⟨t,htl,Nat.le_refl _,Lib.hid (HS2.out.set2 t htl),Lib.hid ((hto.out.trans (Touch.of_below HB2.out)).trans (touch_set p 2 w2 _)),HR⟩
set_option maxHeartbeats 3200000 in
theorem skip_go (w:World) (p:Nat) (ao:Option Addr) (c:Nat) (xs:List Nat) (bg k:Nat) (h:Scn w p ao c xs bg k) :
  Calls Tryz.prog 123 #[.pointer (some ⟨p,0,none⟩),.func (.func 124) #[] #[]] w fun e w'=>e = .returned (.tuple #[])∧Touch (fun i=>i=p) w w'∧Scn w' p ao c xs bg (k+sk goP (xs.drop k)):=by
 have hlen:=h.len
 have H:=Lib.hid h
 obtain ⟨E,hE⟩:∃ E,E=k+sk goP (xs.drop k):=⟨_,rfl⟩
 rw [←hE]
 have HE:=Lib.hid hE
 clear hE h
 go_enter Tryz.func123,Tryz.ntmps123
 go_wp2
 go_loopg [] xs.length (fun gh wr=>∃ j:Nat,j≤xs.length∧xs.length-j≤gh∧Hid (Scn wr p ao c xs bg j)∧Hid (Touch (fun i=>i=p) w wr)∧Hid (E=j+sk goP (xs.drop j)))
 case atStart=>exact ⟨k,H.out.le,by omega,H,Lib.hid (Touch.refl _ _),HE⟩
 case round=>
  obtain ⟨j,hj,hgh,hsc,hto,hst⟩:=hrel
  have p0:=hsc.out.c0
  have p2:=hsc.out.c2
  have HP:=hsc.out.lt
  have hd:Below wr.heap.size wr wr.drew:=below_drewN (Below.refl _ wr) 1
  have K:=Next_any ao c xs j wr.drew (hsc.out.sl.below hd) (hsc.out.tt.tu.grow hd)
  rw [nxF_nat] at K
  have hn4:=nx_le4 (xs.drop j) (hsc.out.bs.drop j)
  rw [List.length_drop] at hn4
  obtain ⟨v,n,hvn⟩:∃ v n,nx (xs.drop j)=(v,n):=⟨_,_,rfl⟩
  have HVN:=Lib.hid hvn
  rw [hvn] at K hn4
  simp only at K hn4
  have K:=Lib.hid K
  have HN4:=Lib.hid hn4
  have HD:=Lib.hid hd
  have HG:=Lib.hid fun W=>Goes_any (v:Int) W
  rw [show goesP (v:Int)=goP v from rfl] at HG
  obtain ⟨z,hz⟩:∃ z,z=goP v:=⟨_,rfl⟩
  rw [←hz] at HG
  have HZ:=Lib.hid hz
  have AF:Hid (∀ W,Below wr.heap.size wr W→(fun W=>W.cell? ⟨p,0,none⟩=some (.slice ao xs.length c)∧W.cell? ⟨p,2,none⟩=some (.int .i64 (j:Nat))) W):=Lib.hid fun W hW=>⟨(hW.cell HP).trans p0,(hW.cell HP).trans p2⟩
  clear hvn hd hn4 hz
  cases z with
  | false=>
   have HR:Hid (E=j):=Lib.hid (by rw [hst.out,sk_no (by rw [HVN.out];exact HZ.out.symm),Nat.add_zero])
   go_upto_region 0 with fail
   go_region_held3 (fun W=>W.cell? ⟨p,0,none⟩=some (.slice ao xs.length c)∧W.cell? ⟨p,2,none⟩=some (.int .i64 (j:Nat))) (exact AF.out _ (by first | with_reducible exact HB.out | with_reducible exact HD.out)) (first
    | (go_at_call 65;(with_reducible refine K.out.mono ?_);rintro e w1 ⟨rfl,hb1⟩;have HB:=Lib.hid (HD.out.trans (hb1.mono HD.out.size));clear hb1))
   go_wp2_with (go_at_call 124;(with_reducible refine (HG.out w1).mono ?_);rintro e w2 ⟨rfl,hb2⟩;have HB2:=Lib.hid (HB.out.trans (hb2.mono HB.out.size));clear hb2)
   refine bodyPost_ret (results_none rfl _ _ _) rfl ?_
   exact ⟨rfl,hto.out.trans (Touch.of_below HB2.out),by rw [HR.out];exact hsc.out.below HB2.out⟩
  | true=>
   have hp:goP (nx (xs.drop j)).1=true:=by rw [HVN.out];exact HZ.out.symm
   have hn0:=(nx_zero goP_zero hp).1
   rw [HVN.out] at hn0
   simp only at hn0
   have hnl:=HN4.out.2.1
   obtain ⟨t,ht⟩:∃ t,t=j+n:=⟨_,rfl⟩
   have hsum:IntKind.i64.wrap ((j:Int)+n)=(t:Int):=by rw [IntKind.wrap_i64];omega
   have htl:t≤xs.length:=by omega
   have htj:j<t:=by omega
   have HR:Hid (E=t+sk goP (xs.drop t)):=Lib.hid (by rw [hst.out,sk_yes goP_zero hp,HVN.out,List.drop_drop,ht];simp only;omega)
   clear hp hn0 hnl ht
   go_upto_region 0 with fail
   go_region_held3 (fun W=>W.cell? ⟨p,0,none⟩=some (.slice ao xs.length c)∧W.cell? ⟨p,2,none⟩=some (.int .i64 (j:Nat))) (exact AF.out _ (by first | with_reducible exact HB.out | with_reducible exact HD.out)) (first
    | (go_at_call 65;(with_reducible refine K.out.mono ?_);rintro e w1 ⟨rfl,hb1⟩;have HB:=Lib.hid (HD.out.trans (hb1.mono HD.out.size));clear hb1))
   go_wp2_with (go_at_call 124;(with_reducible refine (HG.out w1).mono ?_);rintro e w2 ⟨rfl,hb2⟩;have hb:=HB.out.trans (hb2.mono HB.out.size);have HS2:=Lib.hid (hsc.out.below hb);have p2:=HS2.out.c2;have f2:=HS2.out.blk.free 2;have HB2:=Lib.hid hb;clear hb2 hb)
   go_roundg (xs.length-t)
   case measure=>omega
   case rel=>exact ⟨t,htl,Nat.le_refl _,Lib.hid (HS2.out.set2 t htl),Lib.hid ((hto.out.trans (Touch.of_below HB2.out)).trans (touch_set p 2 w2 _)),HR⟩
set_option maxHeartbeats 1600000 in
theorem blanks_any (w:World) (p:Nat) (ao:Option Addr) (c:Nat) (xs:List Nat) (bg k:Nat) (h:Scn w p ao c xs bg k) :
  Calls Tryz.prog 101 #[.pointer (some ⟨p,0,none⟩)] w fun e w'=>e = .returned (.bool (decide (0<sk blaP (xs.drop k))))∧Touch (fun i=>i=p) w w'∧Scn w' p ao c xs bg (k+sk blaP (xs.drop k)):=by
 have K:=Lib.hid (skip_bla w p ao c xs bg k h)
 have p2:=h.c2
 obtain ⟨s,hs⟩:∃ s,s=sk blaP (xs.drop k):=⟨_,rfl⟩
 rw [←hs] at K ⊢
 clear hs h
 go_enter Tryz.func101,Tryz.ntmps101
 go_wp2_with (go_at_call 123;(with_reducible refine K.out.mono ?_);rintro e w1 ⟨rfl,ht1,hs1⟩;have q2:=hs1.c2;have HT:=Lib.hid ht1;have HS:=Lib.hid hs1;clear ht1 hs1 p2)
 go_ret
 refine ⟨?_,HT.out,HS.out⟩
 show Ending.returned (.bool (decide ((k:Int)<(k:Int)+(s:Int))))=_
 rw [show decide ((k:Int)<(k:Int)+(s:Int))=decide (0<s) from decide_eq_decide.2 (by omega)]
end
end Go.Proofs.YtbogfailbgbdoaaGreatDoor.K
namespace Go.Proofs.YtbogfailbgbdoaaGreatDoor
set_option maxRecDepth 100000
section
open Go.RowKit U
def txt (xs:List Nat):ByteArray:=⟨(u8L xs).toArray⟩
theorem conv_txt {w:World} {na:Option Addr} {c:Nat} {xs:List Nat} (h:Sl w na c xs):(convert 22 9 (.slice na xs.length c)).run Tryz.prog w = .ok (.string (txt xs)) w:=by
 rcases h.src with h0 | ⟨b,off,rfl,hc⟩
 ·subst h0
  cases na with
  | none=>exact run_convert_bytes_nil w 22 5 Tryz.underlying22 Tryz.underlying5 _ _ 9 Tryz.underlying9
  | some a=>exact run_convert_bytes_back w 22 9 5 a c [] Tryz.underlying22 Tryz.underlying5 Tryz.underlying9 (fun j hj=>absurd hj (by simp))
 ·have:=run_convert_bytes_arg w 22 5 Tryz.underlying22 Tryz.underlying5 b off xs.length c (ints xs) (ints_len xs) (fun i hi=>by rw [ints_at];exact hc i hi) 9 Tryz.underlying9
  rw [this]
  congr 2
  simp [strOfNums,ints,txt,u8L]
theorem lit_below (W:World) (o:Obj):Below W.heap.size W (W.alloc o):=(Below.refl _ W).alloc (Nat.le_refl _) _
end
end Go.Proofs.YtbogfailbgbdoaaGreatDoor
namespace Go.Proofs.YtbogfailbgbdoaaGreatDoor.K
set_option maxRecDepth 100000
section
open Go.RowKit Go.Proofs.YtbogfailbgbdoaaGreatDoor U
section
variable {P:Program} {md:Region.Mode} {ops:Array Oper} {Q:Exit→Act→World→Prop} {S:World→Prop} {fuel:Nat} {listed:Array Bool} {w:World} {l:List Value} {ds:List Deferred} {oi:Oper} {k:Nat}
theorem tC (i:Nat) (v:Value) (hS:S w) (h:wpAnyH P md ops Q S fuel (listed.setIfInBounds i true) ⟨(l.set k v).toArray,ds⟩ w) (hi:ops[i]? = some oi:=by rfl) (hk:oi.dst=some k:=by rfl) (hs:Region.noSelect ops=true:=by kernel_rfl) (hf:Region.free md ops listed i=true:=by kernel_rfl)
  (hr:(Region.ready md ops listed).contains i=true:=by kernel_rfl) (hw:Region.wanted oi (yielded ops l.toArray)=true:=by rfl) (hy:∀ W,S W→(execOp (Act.eval ⟨l.toArray,ds⟩) oi).run P W = .ok (.value v) W:=by (intro W hSw;obtain ⟨x0,x1⟩:=hSw;go_simp))
  (hQ:∀ c a w,Q (.panic c) (a.put oi.dst v) w→Q (.panic c) a w:=by (intro c a w h;exact h)):wpAnyH P md ops Q S (fuel+1) listed ⟨l.toArray,ds⟩ w:=by
 refine wpAnyH_take hi hs hf hr hQ (.inl ⟨hw,hy⟩) hS ?_
 rw [hk]
 unfold Act.put
 simpa using h
end
theorem bytes_in {w:World} {a:Option Addr} {c:Nat} {xs:List Nat} (h:Sl w a c xs):Lib.BytesIn w a xs.length (ints xs):=fun hn=>by
 rcases h.src with h0 | ⟨b,o,e,hc⟩
 ·rw [h0] at hn;simp at hn
 ·exact ⟨b,o,e,fun i hi=>by rw [ints_at];exact hc i hi⟩
theorem hasPrefix_any (a1 a2:Option Addr) (c1 c2:Nat) (xs ys:List Nat) (w:World) (h1:Sl w a1 c1 xs) (h2:Sl w a2 c2 ys) :
  Calls Tryz.prog 64 #[.slice a1 xs.length c1,.slice a2 ys.length c2] w fun e w'=>e = .returned (.bool (decide (ys <+: xs)))∧w'=w:=by
 have K:=Any.bytes_HasPrefix_all lhas a1 a2 xs.length c1 ys.length c2 (ints xs) (ints ys) w (ints_len _) (ints_len _) h1.le (bytes_in h1) (bytes_in h2)
 rw [bytesOf_ints,bytesOf_ints] at K
 unfold Lib.hasPrefix at K
 rw [u8L_pre h2.bs h1.bs] at K
 exact K
theorem txt_size (L:List Nat):(txt L).size=L.length:=by
 show (u8L L).toArray.size=_
 simp [u8L]
theorem bts_txt {L:List Nat} (h:Bs L):bts (txt L)=L:=by
 show ((u8L L).toArray.toList.map UInt8.toNat)=L
 rw [List.toList_toArray,u8L,List.map_map]
 conv=>rhs;rw [←List.map_id L]
 refine List.map_congr_left fun x hx=>?_
 have:=h x hx
 simp
 omega
section
variable (w:World) (p:Nat) (ao:Option Addr) (c:Nat) (xs:List Nat) (bg k:Nat)
set_option maxHeartbeats 1600000 in
theorem has_any (s:List Nat) (hs:Bs s) (hl:s.length≤1000) (h:Scn w p ao c xs bg k) :
  Calls Tryz.prog 94 #[.pointer (some ⟨p,0,none⟩),.string (txt s)] w fun e w'=>e = .returned (.bool (decide (s <+: xs.drop k)))∧Below w.heap.size w w':=by
 obtain ⟨NEW,CAP,hcvt,hnb,hns⟩:=text_run (txt s) (by rw [txt_size];omega)
 rw [txt_size] at hcvt
 rw [bts_txt hs] at hns
 have p0:=h.c0
 have p2:=h.c2
 have HP:=h.lt
 have hd:Below w.heap.size w w.drew:=below_drewN (Below.refl _ w) 1
 have hcut:=slice_l ao xs.length c k h.le
 have hnd:Below w.heap.size w (NEW w.drew):=hd.trans ((hnb w.drew).mono hd.size)
 have K:=hasPrefix_any _ _ _ _ _ _ (NEW w.drew) ((h.sl.from_ k h.le).below hnd) (hns w.drew)
 rw [List.length_drop] at K
 obtain ⟨R,hR⟩:∃ R,R=decide (s <+: xs.drop k):=⟨_,rfl⟩
 rw [←hR] at K ⊢
 generalize cutA ao c k=CO at hcut K
 obtain ⟨n,hn⟩:∃ n,n=s.length:=⟨_,rfl⟩
 rw [←hn] at K hcvt
 have K:Hid (Calls Tryz.prog 64 #[.slice CO (xs.length-k) (c-k),.slice (some ⟨w.heap.size,0,none⟩) n (CAP w.drew)] (NEW w.drew) fun e w'=>e = .returned (.bool R)∧w'=NEW w.drew):=Lib.hid K
 have HD:=Lib.hid hd
 have HND:=Lib.hid hnd
 have AF:Hid (∀ W,Below w.heap.size w W→(fun W=>W.cell? ⟨p,0,none⟩=some (.slice ao xs.length c)∧W.cell? ⟨p,2,none⟩=some (.int .i64 (k:Nat))) W):=Lib.hid fun W hW=>⟨(hW.cell HP).trans p0,(hW.cell HP).trans p2⟩
 clear h hd hnd hR hn hnb hns hs hl
 go_enter Tryz.func94,Tryz.ntmps94
 go_upto_region 1 with fail
 refine wp_region_held_drew (S:=fun W=>W.cell? ⟨p,0,none⟩=some (.slice ao xs.length c)∧W.cell? ⟨p,2,none⟩=some (.int .i64 (k:Nat))) (by kernel_rfl) ⟨p0,p2⟩ (fun hHeld=>?_)
 refine tC 0 (.pointer (some ⟨p,0,none⟩)) hHeld ?_
 refine tC 1 (.pointer (some ⟨p,0,none⟩)) hHeld ?_
 refine tC 2 (.pointer (some ⟨p,0,none⟩)) hHeld ?_
 refine tC 3 (.slice ao xs.length c) hHeld ?_
 refine tC 4 (.pointer (some ⟨p,0,none⟩)) hHeld ?_
 refine tC 5 (.pointer (some ⟨p,0,none⟩)) hHeld ?_
 refine tC 6 (.pointer (some ⟨p,2,none⟩)) hHeld ?_
 refine tC 7 (.int .i64 (k:Nat)) hHeld ?_
 refine tC 8 (.slice CO (xs.length-k) (c-k)) hHeld ?_
 refine tC 9 (.string (txt s)) hHeld ?_
 try simp only [List.set_cons_zero,List.set_cons_succ]
 refine wpAnyH_ready (rs:=[10]) (by kernel_rfl) (by simp) ?_
 refine AllReadyH.cons (o:={ dst:=some 15,op:=Op.convert 9 22 (Operand.tmp 14),type:=22,pos := "token.go:314",after := #[{ on:=9,ground:=Ground.data }],guard:=none }) rfl (fun KQ hK=>?_) AllReadyH.nil
 go_simp
 refine hK.out _ _ (AF.out _ HND.out) (fun hHeld=>?_)
 try simp only [Act.put,List.setIfInBounds_toArray,List.set_cons_zero,List.set_cons_succ]
 try simp only [List.set_cons_zero,List.set_cons_succ]
 refine wpAnyH_ready (rs:=[11]) (by kernel_rfl) (by simp) ?_
 refine AllReadyH.cons (o:={ dst:=some 16,op:=Op.call { callee:=Callee.value (Operand.func 64),args := #[Operand.tmp 13,Operand.tmp 15],argTypes := #[22,22] },type:=4,pos := "token.go:314",after := #[{ on:=8,ground:=Ground.data },{ on:=10,ground:=Ground.data }],guard:=none }) rfl (fun KQ hK=>?_) AllReadyH.nil
 go_simp
 go_at_call 64
 (with_reducible refine K.out.mono ?_)
 rintro e w1 ⟨rfl,rfl⟩
 refine hK.out _ _ (AF.out _ HND.out) (fun hHeld=>?_)
 try simp only [Act.put,List.setIfInBounds_toArray,List.set_cons_zero,List.set_cons_succ]
 refine tC 12 (.bool R) hHeld ?_
 refine wpAnyH_done (by kernel_rfl) ?_ _
 try simp only [List.set_cons_zero,List.set_cons_succ]
 go_wp2
 go_ret
 exact ⟨rfl,HND.out⟩
end
section
variable (w:World) (p:Nat) (ao:Option Addr) (c:Nat) (xs:List Nat) (bg k:Nat)
set_option maxHeartbeats 1600000 in
theorem takes_no (S:ByteArray) (s:List Nat) (hS:S=txt s) (hs:Bs s) (hl:s.length≤1000) (hn:¬s <+: xs.drop k) (h:Scn w p ao c xs bg k) :
  Calls Tryz.prog 70 #[.pointer (some ⟨p,0,none⟩),.string S] w fun e w'=>e = .returned (.bool false)∧Below w.heap.size w w':=by
 subst hS
 have K:=has_any w p ao c xs bg k s hs hl h
 rw [decide_eq_false hn] at K
 have K:=Lib.hid K
 clear h hn hs hl
 go_enter Tryz.func70,Tryz.ntmps70
 go_wp2_with (go_at_call 94;(with_reducible refine K.out.mono ?_);rintro e w1 ⟨rfl,hb1⟩;have HB1:=Lib.hid hb1;clear hb1)
 go_ret
 exact ⟨rfl,HB1.out⟩
set_option maxHeartbeats 1600000 in
theorem takes_yes (S:ByteArray) (s:List Nat) (hS:S=txt s) (hs:Bs s) (hl:s.length≤1000) (hn:s <+: xs.drop k) (h:Scn w p ao c xs bg k) :
  Calls Tryz.prog 70 #[.pointer (some ⟨p,0,none⟩),.string S] w fun e w'=>e = .returned (.bool true)∧Touch (fun i=>i=p) w w'∧Scn w' p ao c xs bg (k+s.length):=by
 subst hS
 have K:=has_any w p ao c xs bg k s hs hl h
 rw [decide_eq_true hn] at K
 have K:=Lib.hid K
 have H:=Lib.hid h
 have hle:=hn.length_le
 rw [List.length_drop] at hle
 have hz:=txt_size s
 obtain ⟨n,hnn⟩:∃ n,n=s.length:=⟨_,rfl⟩
 rw [←hnn] at hle hz ⊢
 have hkl:=h.le
 have hlen:=h.len
 obtain ⟨t,ht⟩:∃ t,t=k+n:=⟨_,rfl⟩
 have htl:t≤xs.length:=by omega
 have hsum:IntKind.i64.wrap ((k:Int)+n)=(t:Int):=by rw [IntKind.wrap_i64];omega
 rw [←ht]
 clear h hn hs hl hnn hle hkl ht
 go_enter Tryz.func70,Tryz.ntmps70
 go_wp2_with (go_at_call 94;(with_reducible refine K.out.mono ?_);rintro e w1 ⟨rfl,hb1⟩;have HS1:=Lib.hid (H.out.below hb1);have p2:=HS1.out.c2;have f2:=HS1.out.blk.free 2;have HB1:=Lib.hid hb1;clear hb1)
 go_ret
 exact ⟨rfl,(Touch.of_below HB1.out).trans (touch_set p 2 w1 _),HS1.out.set2 t htl⟩
theorem cut_yes (a1 a2:Option Addr) (c1 c2:Nat) (L s:List Nat) (i:Nat) (W:World) (h1:Sl W a1 c1 L) (h2:Sl W a2 c2 s) (hm:L.length≤1000000) (hT:TU W) (hi:ix s L=some i) :
  Calls Tryz.prog 102 #[.slice a1 L.length c1,.slice a2 s.length c2] W fun e w'=>(∃ V,e = .returned (.tuple #[.slice a1 i c1,V,.bool true])∧V=Lib.fromV a1 L.length c1 (i+s.length))∧Below W.heap.size W w':=by
 obtain ⟨m,hmm⟩:=hT.len
 have:=h2.le
 have:=h2.big
 have K:=Any.bytes_Cut_all lcut a1 a2 L.length c1 s.length c2 (ints L) (ints s) m W (ints_len _) (ints_len _) (ints_bd h1.bs) (ints_bd h2.bs) (bytes_in h1) (bytes_in h2) h1.nil h1.le (by omega) (by unfold maxLen at this;omega) hmm
 rw [bytesOf_ints,bytesOf_ints,ix_lib h2.bs h1.bs,hi,show ixI (some i)=(i:Int) from rfl] at K
 unfold Lib.cutV at K
 rw [if_pos (by omega)] at K
 exact K.mono fun e w' ⟨he,q,hq⟩=>⟨⟨_,he,by simp⟩,by rw [hq];exact below_drewN (Below.refl _ _) q⟩
theorem cut_no (a1 a2:Option Addr) (c1 c2:Nat) (L s:List Nat) (W:World) (h1:Sl W a1 c1 L) (h2:Sl W a2 c2 s) (hm:L.length≤1000000) (hT:TU W) (hi:ix s L=none) :
  Calls Tryz.prog 102 #[.slice a1 L.length c1,.slice a2 s.length c2] W fun e w'=>e = .returned (.tuple #[.slice a1 L.length c1,.slice none 0 0,.bool false])∧Below W.heap.size W w':=by
 obtain ⟨m,hmm⟩:=hT.len
 have:=h2.le
 have:=h2.big
 have K:=Any.bytes_Cut_all lcut a1 a2 L.length c1 s.length c2 (ints L) (ints s) m W (ints_len _) (ints_len _) (ints_bd h1.bs) (ints_bd h2.bs) (bytes_in h1) (bytes_in h2) h1.nil h1.le (by omega) (by unfold maxLen at this;omega) hmm
 rw [bytesOf_ints,bytesOf_ints,ix_lib h2.bs h1.bs,hi,show ixI none = -1 from rfl] at K
 unfold Lib.cutV at K
 rw [if_neg (by omega)] at K
 exact K.mono fun e w' ⟨he,q,hq⟩=>⟨he,by rw [hq];exact below_drewN (Below.refl _ _) q⟩
set_option maxHeartbeats 3200000 in
theorem upTo_no (S:ByteArray) (s:List Nat) (hS:S=txt s) (hs:Bs s) (hl:s.length≤1000) (hn:ix s (xs.drop k)=none) (h:Scn w p ao c xs bg k) :
  Calls Tryz.prog 73 #[.pointer (some ⟨p,0,none⟩),.string S] w fun e w'=>e=kpan 22∧Below w.heap.size w w':=by
 subst hS
 obtain ⟨NEW,CAP,hcvt,hnb,hns⟩:=text_run (txt s) (by rw [txt_size];omega)
 rw [txt_size] at hcvt
 rw [bts_txt hs] at hns
 have p0:=h.c0
 have p2:=h.c2
 have HP:=h.lt
 have hd:Below w.heap.size w w.drew:=below_drewN (Below.refl _ w) 1
 have hcut:=slice_l ao xs.length c k h.le
 have hnd:Below w.heap.size w (NEW w.drew):=hd.trans ((hnb w.drew).mono hd.size)
 obtain ⟨n,hnn⟩:∃ n,n=s.length:=⟨_,rfl⟩
 have K:=cut_no _ _ _ _ _ _ (NEW w.drew) ((h.sl.from_ k h.le).below hnd) (hns w.drew) (by rw [List.length_drop];have:=h.len;omega) (h.tt.tu.grow hnd) hn
 rw [List.length_drop] at K
 generalize cutA ao c k=CO at hcut K
 rw [←hnn] at K hcvt
 have K:Hid (Calls Tryz.prog 102 #[.slice CO (xs.length-k) (c-k),.slice (some ⟨w.heap.size,0,none⟩) n (CAP w.drew)] (NEW w.drew) fun e w'=>e = .returned (.tuple #[.slice CO (xs.length-k) (c-k),.slice none 0 0,.bool false])∧Below (NEW w.drew).heap.size (NEW w.drew) w'):=Lib.hid K
 have HND:=Lib.hid hnd
 have AF:Hid (∀ W,Below w.heap.size w W→(fun W=>W.cell? ⟨p,0,none⟩=some (.slice ao xs.length c)∧W.cell? ⟨p,2,none⟩=some (.int .i64 (k:Nat))) W):=Lib.hid fun W hW=>⟨(hW.cell HP).trans p0,(hW.cell HP).trans p2⟩
 clear h hd hnd hnn hnb hns hs hl hn
 go_enter Tryz.func73,Tryz.ntmps73
 go_upto_region 1 with fail
 refine wp_region_held_drew (S:=fun W=>W.cell? ⟨p,0,none⟩=some (.slice ao xs.length c)∧W.cell? ⟨p,2,none⟩=some (.int .i64 (k:Nat))) (by kernel_rfl) ⟨p0,p2⟩ (fun hHeld=>?_)
 refine tC 0 (.pointer (some ⟨p,0,none⟩)) hHeld ?_
 refine tC 1 (.pointer (some ⟨p,0,none⟩)) hHeld ?_
 refine tC 2 (.pointer (some ⟨p,0,none⟩)) hHeld ?_
 refine tC 3 (.slice ao xs.length c) hHeld ?_
 refine tC 4 (.pointer (some ⟨p,0,none⟩)) hHeld ?_
 refine tC 5 (.pointer (some ⟨p,0,none⟩)) hHeld ?_
 refine tC 6 (.pointer (some ⟨p,2,none⟩)) hHeld ?_
 refine tC 7 (.int .i64 (k:Nat)) hHeld ?_
 refine tC 8 (.slice CO (xs.length-k) (c-k)) hHeld ?_
 refine tC 9 (.string (txt s)) hHeld ?_
 try simp only [List.set_cons_zero,List.set_cons_succ]
 refine wpAnyH_ready (rs:=[10]) (by kernel_rfl) (by simp) ?_
 refine AllReadyH.cons (o:={ dst:=some 19,op:=Op.convert 9 22 (Operand.tmp 18),type:=22,pos := "token.go:328",after := #[{ on:=9,ground:=Ground.data }],guard:=none }) rfl (fun KQ hK=>?_) AllReadyH.nil
 go_simp
 refine hK.out _ _ (AF.out _ HND.out) (fun hHeld=>?_)
 try simp only [Act.put,List.setIfInBounds_toArray,List.set_cons_zero,List.set_cons_succ]
 try simp only [List.set_cons_zero,List.set_cons_succ]
 refine wpAnyH_ready (rs:=[11]) (by kernel_rfl) (by simp) ?_
 refine AllReadyH.cons (o:={ dst:=some 20,op:=Op.call { callee:=Callee.value (Operand.func 102),args := #[Operand.tmp 17,Operand.tmp 19],argTypes := #[22,22] },type:=121,pos := "token.go:328",after := #[{ on:=8,ground:=Ground.data },{ on:=10,ground:=Ground.data }],guard:=none }) rfl (fun KQ hK=>?_) AllReadyH.nil
 go_simp
 go_at_call 102
 (with_reducible refine K.out.mono ?_)
 rintro e w1 ⟨rfl,hb1⟩
 have HB1:=Lib.hid (HND.out.trans (hb1.mono HND.out.size))
 clear hb1
 refine hK.out _ _ (AF.out _ HB1.out) (fun hHeld=>?_)
 try simp only [Act.put,List.setIfInBounds_toArray,List.set_cons_zero,List.set_cons_succ]
 refine tC 12 (.tuple #[.slice CO (xs.length-k) (c-k),.slice none 0 0,.bool false]) hHeld ?_
 refine tC 13 (.slice CO (xs.length-k) (c-k)) hHeld ?_
 refine tC 14 (.slice none 0 0) hHeld ?_
 refine tC 15 (.bool false) hHeld ?_
 refine tC 16 (.slice CO (xs.length-k) (c-k)) hHeld ?_
 refine tC 17 (.slice none 0 0) hHeld ?_
 refine tC 18 (.bool false) hHeld ?_
 refine wpAnyH_done (by kernel_rfl) ?_ _
 try simp only [List.set_cons_zero,List.set_cons_succ]
 go_wp2_with fail
 refine (must_no 22 w1).mono ?_
 rintro e w2 ⟨rfl,rfl⟩
 exact ⟨rfl,rfl,HB1.out⟩
set_option maxHeartbeats 3200000 in
theorem upTo_yes (S:ByteArray) (s:List Nat) (i:Nat) (hS:S=txt s) (hs:Bs s) (hl:s.length≤1000) (hn:ix s (xs.drop k)=some i) (h:Scn w p ao c xs bg k) :
  Calls Tryz.prog 73 #[.pointer (some ⟨p,0,none⟩),.string S] w fun e w'=>e = .returned (.string (txt ((xs.drop k).take i)))∧Touch (fun j=>j=p) w w'∧Scn w' p ao c xs bg (k+i+s.length):=by
 subst hS
 obtain ⟨NEW,CAP,hcvt,hnb,hns⟩:=text_run (txt s) (by rw [txt_size];omega)
 rw [txt_size] at hcvt
 rw [bts_txt hs] at hns
 have p0:=h.c0
 have p2:=h.c2
 have HP:=h.lt
 have hd:Below w.heap.size w w.drew:=below_drewN (Below.refl _ w) 1
 have hcut:=slice_l ao xs.length c k h.le
 have hnd:Below w.heap.size w (NEW w.drew):=hd.trans ((hnb w.drew).mono hd.size)
 obtain ⟨n,hnn⟩:∃ n,n=s.length:=⟨_,rfl⟩
 have K:=cut_yes _ _ _ _ _ _ i (NEW w.drew) ((h.sl.from_ k h.le).below hnd) (hns w.drew) (by rw [List.length_drop];have:=h.len;omega) (h.tt.tu.grow hnd) hn
 have hle:=ix_le hn
 rw [List.length_drop] at K hle
 have HPIECE:=Lib.hid (h.sl.cut' k i (by have:=h.le;omega))
 have hpl:((xs.drop k).take i).length=i:=by rw [List.length_take,List.length_drop];omega
 have HFARP:∀ ad,cutA ao c k=some ad→(xs.drop k).take i≠[]→ad.block≠p:=fun ad e hne=>by
  have hx:xs≠[]:=by intro e;rw [e] at hne;simp at hne
  unfold cutA at e
  split at e
  ·exact h.far ad e hx
  ·rcases hao:ao with _ | a0
   ·rw [hao] at e;cases e
   ·rw [hao] at e
    have e1:=h.far a0 hao hx
    rw [Option.map_some] at e
    rw [←Option.some.inj e]
    unfold Addr.add
    split <;> exact e1
 generalize cutA ao c k=CO at hcut K HPIECE HFARP
 rw [←hnn] at K hcvt
 have hz:=txt_size s
 rw [←hnn] at hle hz ⊢
 have hkl:=h.le
 have hlen:=h.len
 obtain ⟨t,ht⟩:∃ t,t=k+i+n:=⟨_,rfl⟩
 obtain ⟨m,hm⟩:∃ m,m=i+n:=⟨_,rfl⟩
 have htl:t≤xs.length:=by omega
 have hsum1:IntKind.i64.wrap ((i:Int)+n)=(m:Int):=by rw [IntKind.wrap_i64];omega
 have hsum:IntKind.i64.wrap ((k:Int)+m)=(t:Int):=by rw [IntKind.wrap_i64];omega
 rw [←ht]
 obtain ⟨V,hV⟩:∃ V,V=Lib.fromV CO (xs.length-k) (c-k) (i+n):=⟨_,rfl⟩
 rw [←hV] at K
 have K:Hid (Calls Tryz.prog 102 #[.slice CO (xs.length-k) (c-k),.slice (some ⟨w.heap.size,0,none⟩) n (CAP w.drew)] (NEW w.drew) fun e w'=>e = .returned (.tuple #[.slice CO i (c-k),V,.bool true])∧Below (NEW w.drew).heap.size (NEW w.drew) w'):=Lib.hid (K.mono fun e w' ⟨⟨V',he,hv'⟩,hb⟩=>⟨by rw [he,hv'],hb⟩)
 obtain ⟨PC,hPC⟩:∃ PC,PC=(xs.drop k).take i:=⟨_,rfl⟩
 rw [←hPC] at HPIECE HFARP hpl ⊢
 have HPL:=Lib.hid hpl
 have H:=Lib.hid h
 have HFAR:Hid (∀ ad,CO=some ad→PC≠[]→ad.block≠p):=Lib.hid HFARP
 have HND:=Lib.hid hnd
 have AF:Hid (∀ W,Below w.heap.size w W→(fun W=>W.cell? ⟨p,0,none⟩=some (.slice ao xs.length c)∧W.cell? ⟨p,2,none⟩=some (.int .i64 (k:Nat))) W):=Lib.hid fun W hW=>⟨(hW.cell HP).trans p0,(hW.cell HP).trans p2⟩
 clear h hd hnd hnn hnb hns hs hl hn hle ht hm hV hPC hpl hkl
 go_enter Tryz.func73,Tryz.ntmps73
 go_upto_region 1 with fail
 refine wp_region_held_drew (S:=fun W=>W.cell? ⟨p,0,none⟩=some (.slice ao xs.length c)∧W.cell? ⟨p,2,none⟩=some (.int .i64 (k:Nat))) (by kernel_rfl) ⟨p0,p2⟩ (fun hHeld=>?_)
 refine tC 0 (.pointer (some ⟨p,0,none⟩)) hHeld ?_
 refine tC 1 (.pointer (some ⟨p,0,none⟩)) hHeld ?_
 refine tC 2 (.pointer (some ⟨p,0,none⟩)) hHeld ?_
 refine tC 3 (.slice ao xs.length c) hHeld ?_
 refine tC 4 (.pointer (some ⟨p,0,none⟩)) hHeld ?_
 refine tC 5 (.pointer (some ⟨p,0,none⟩)) hHeld ?_
 refine tC 6 (.pointer (some ⟨p,2,none⟩)) hHeld ?_
 refine tC 7 (.int .i64 (k:Nat)) hHeld ?_
 refine tC 8 (.slice CO (xs.length-k) (c-k)) hHeld ?_
 refine tC 9 (.string (txt s)) hHeld ?_
 try simp only [List.set_cons_zero,List.set_cons_succ]
 refine wpAnyH_ready (rs:=[10]) (by kernel_rfl) (by simp) ?_
 refine AllReadyH.cons (o:={ dst:=some 19,op:=Op.convert 9 22 (Operand.tmp 18),type:=22,pos := "token.go:328",after := #[{ on:=9,ground:=Ground.data }],guard:=none }) rfl (fun KQ hK=>?_) AllReadyH.nil
 go_simp
 refine hK.out _ _ (AF.out _ HND.out) (fun hHeld=>?_)
 try simp only [Act.put,List.setIfInBounds_toArray,List.set_cons_zero,List.set_cons_succ]
 try simp only [List.set_cons_zero,List.set_cons_succ]
 refine wpAnyH_ready (rs:=[11]) (by kernel_rfl) (by simp) ?_
 refine AllReadyH.cons (o:={ dst:=some 20,op:=Op.call { callee:=Callee.value (Operand.func 102),args := #[Operand.tmp 17,Operand.tmp 19],argTypes := #[22,22] },type:=121,pos := "token.go:328",after := #[{ on:=8,ground:=Ground.data },{ on:=10,ground:=Ground.data }],guard:=none }) rfl (fun KQ hK=>?_) AllReadyH.nil
 go_simp
 go_at_call 102
 (with_reducible refine K.out.mono ?_)
 rintro e w1 ⟨rfl,hb1⟩
 have HB1:=Lib.hid (HND.out.trans (hb1.mono HND.out.size))
 clear hb1
 refine hK.out _ _ (AF.out _ HB1.out) (fun hHeld=>?_)
 try simp only [Act.put,List.setIfInBounds_toArray,List.set_cons_zero,List.set_cons_succ]
 refine tC 12 (.tuple #[.slice CO i (c-k),V,.bool true]) hHeld ?_
 refine tC 13 (.slice CO i (c-k)) hHeld ?_
 refine tC 14 (V) hHeld ?_
 refine tC 15 (.bool true) hHeld ?_
 refine tC 16 (.slice CO i (c-k)) hHeld ?_
 refine tC 17 (V) hHeld ?_
 refine tC 18 (.bool true) hHeld ?_
 refine wpAnyH_done (by kernel_rfl) ?_ _
 try simp only [List.set_cons_zero,List.set_cons_succ]
 go_wp2_with fail
 refine (must_yes 22 w1).mono ?_
 rintro e w2 ⟨rfl,rfl⟩
 have HS1:=Lib.hid (H.out.below HB1.out)
 have p2':=HS1.out.c2
 have f2:=HS1.out.blk.free 2
 have HS2:=Lib.hid (HS1.out.set2 t htl)
 have HT2:Hid (Touch (fun j=>j=p) w (w1.setCell ⟨p,2,none⟩ (.int .i64 (t:Nat)))):=Lib.hid ((Touch.of_below HB1.out).trans (touch_set p 2 w1 _))
 have hcv:(convert 22 9 (.slice CO i (c-k))).run Tryz.prog (w1.setCell ⟨p,2,none⟩ (.int .i64 (t:Nat))) = .ok (.string (txt PC)) (w1.setCell ⟨p,2,none⟩ (.int .i64 (t:Nat))):=by
  have hs2:=HPIECE.out.src.touch HT2.out (fun b off e hne hs=>HFAR.out _ e hne hs)
  have:=conv_txt (w:=w1.setCell ⟨p,2,none⟩ (.int .i64 (t:Nat))) (na:=CO) (c:=c-k) (xs:=PC) ⟨hs2,HPIECE.out.le,HPIECE.out.big,HPIECE.out.nil,HPIECE.out.bs⟩
  rwa [HPL.out] at this
 clear p0 p2
 go_wp2
 go_ret
 exact ⟨rfl,HT2.out,HS2.out⟩
end
end
end Go.Proofs.YtbogfailbgbdoaaGreatDoor.K
