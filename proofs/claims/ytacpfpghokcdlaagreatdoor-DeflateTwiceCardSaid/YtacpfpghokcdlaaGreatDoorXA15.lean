/- Part 15. -/
import Derived.Test.YtacpfpghokcdlaaGreatDoorXA14
namespace Go.Proofs.YtacpfpghokcdlaaGreatDoor.Y
set_option maxRecDepth 100000
section
open Go.RowKit
theorem two_pow_lim {lim:Nat} (h:1≤lim):lim-1+1=lim:=by omega
theorem Used.fit {ns us:List Nat} {lim:Nat} (h:Used ns us) (hl:1≤lim) (h2:us.length≤2^lim) (h3:2≤us.length):Fit (cts ns us) (lim-1):=
 ⟨h.up,by rw [cts_len];exact h3,by rw [cts_len,two_pow_lim hl];exact h2⟩
theorem lenG_bounds {ns us:List Nat} {lim:Nat} (h:Used ns us) (hl:1≤lim) (h2:us.length≤2^lim) {i:Nat} (hi:i<us.length):1≤lenG (cts ns us) (lim-1) i∧lenG (cts ns us) (lim-1) i≤lim:=by
 unfold lenG
 rw [cts_len]
 by_cases h1:us.length=1
 ·rw [if_pos h1];exact ⟨Nat.le_refl _,hl⟩
 ·rw [if_neg h1]
  have F:=h.fit hl h2 (by omega)
  exact ⟨F.la_pos (by rw [cts_len];exact hi),by have:=Fit.la_le (cs:=cts ns us) (d:=lim-1) i;omega⟩
theorem idx_lt {us:List Nat} {s:Nat} (h:s∈us):us.idxOf s<us.length:=List.idxOf_lt_length_iff.2 h
theorem LF_bounds {ns us:List Nat} {lim:Nat} (h:Used ns us) (hl:1≤lim) (h2:us.length≤2^lim) {s:Nat} (hs:s<ns.length) :
  (ns.getD s 0=0→LF us (lenG (cts ns us) (lim-1)) s=0)∧(0<ns.getD s 0→1≤LF us (lenG (cts ns us) (lim-1)) s∧LF us (lenG (cts ns us) (lim-1)) s≤lim):=by
 refine ⟨fun e=>?_,fun e=>?_⟩
 ·unfold LF
  rw [if_neg fun hm=>by have:=(h.mem.1 hm).2;omega]
 ·have hm:s∈us:=h.mem.2 ⟨hs,e⟩
  unfold LF
  rw [if_pos hm]
  exact lenG_bounds h hl h2 (idx_lt hm)
theorem sumr_list (n:Nat) (f:Nat→Nat):sumr n f=((List.range n).map f).sum:=rfl
theorem sum_filter (l:List Nat) (p:Nat→Bool) (f:Nat→Nat) (h:∀ x∈l,p x=false→f x=0):(l.map f).sum=((l.filter p).map f).sum:=by
 induction l with
 | nil=>rfl
 | cons a l ih=>
  have ih:=ih fun x hx=>h x (List.mem_cons_of_mem _ hx)
  rw [List.map_cons,List.sum_cons,List.filter_cons]
  by_cases hp:p a=true
  ·rw [if_pos hp,List.map_cons,List.sum_cons,ih]
  ·rw [if_neg hp,ih,h a (List.mem_cons_self ..) (by simpa using hp),Nat.zero_add]
theorem sum_getD (l:List Nat) (f:Nat→Nat):(l.map f).sum=sumr l.length fun i=>f (l.getD i 0):=by
 rw [sumr_list]
 congr 1
 apply List.ext_getElem
 ·simp
 ·intro i h1 h2
  simp only [List.length_map] at h1
  simp [List.getD,h1]
theorem sum_used {ns us:List Nat} (h:Used ns us) (f:Nat→Nat) (hf:∀ s,ns.getD s 0=0→f s=0):sumr ns.length f=sumr us.length fun i=>f (us.getD i 0):=by
 rw [←sum_getD,sumr_list,(h.perm.map f).sum_nat]
 exact sum_filter _ _ _ fun x _ hx=>hf x (by have:=of_decide_eq_false hx;omega)
theorem sum_LF {ns us:List Nat} (h:Used ns us) (G:Nat→Nat) (f:Nat→Nat→Nat) (hf:∀ s,f s 0=0):sumr ns.length (fun s=>f s (LF us G s))=sumr us.length fun i=>f (us.getD i 0) (G i):=by
 rw [sum_used h (fun s=>f s (LF us G s)) fun s e=>?_]
 ·refine sumr_congr fun i hi=>?_
  rw [LF_at h.nodup G hi]
 ·have:LF us G s=0:=by
   unfold LF
   rw [if_neg fun hm=>by have:=(h.mem.1 hm).2;omega]
  simp only [this,hf]
def lens (ns us:List Nat) (lim:Nat):List Nat:=(List.range ns.length).map (LF us (lenG (cts ns us) (lim-1)))
theorem lens_len (ns us:List Nat) (lim:Nat):(lens ns us lim).length=ns.length:=by simp [lens]
theorem lens_at (ns us:List Nat) (lim:Nat) {s:Nat} (hs:s<ns.length):(lens ns us lim).getD s 0=LF us (lenG (cts ns us) (lim-1)) s:=by simp [lens,List.getD,hs]
theorem lens_le {ns us:List Nat} {lim:Nat} (h:Used ns us) (hl:1≤lim) (h2:us.length≤2^lim):∀ x∈lens ns us lim,x≤lim:=fun x hx=>by
 obtain ⟨s,hs,rfl⟩:=List.mem_map.1 hx
 have hs:=List.mem_range.1 hs
 have:=LF_bounds h hl h2 hs
 by_cases e:ns.getD s 0=0
 ·rw [this.1 e];omega
 ·exact (this.2 (by omega)).2
def bst (cs:List Nat) (D:Nat):Nat:=if cs.length=0 then 0 else if cs.length=1 then cs.getD 0 0 else best cs D
theorem lens_cost {ns us:List Nat} {lim:Nat} (h:Used ns us) (hl:1≤lim) (h2:us.length≤2^lim):cst ns (lens ns us lim) ns.length=bst (cts ns us) (lim-1):=by
 have e1:cst ns (lens ns us lim) ns.length=sumr ns.length fun s=>ns.getD s 0*LF us (lenG (cts ns us) (lim-1)) s:=sumr_congr fun i hi=>by rw [lens_at ns us lim hi]
 rw [e1,sum_LF h _ (fun s x=>ns.getD s 0*x) (fun s=>Nat.mul_zero _)]
 unfold bst
 rw [cts_len]
 by_cases h0:us.length=0
 ·rw [if_pos h0,h0];rfl
 ·rw [if_neg h0]
  by_cases h1:us.length=1
  ·rw [if_pos h1,h1,sumr_succ,sumr_zero,cts_at _ _ _ (by omega)]
   unfold lenG
   rw [cts_len,if_pos h1]
   omega
  ·rw [if_neg h1]
   have F:=h.fit hl h2 (by omega)
   rw [←F.costs,cts_len]
   refine sumr_congr fun i hi=>?_
   rw [cts_at _ _ _ hi]
   unfold lenG
   rw [cts_len,if_neg h1]
theorem part1_sum (ls:List Nat):rsum ls=sumr ls.length fun i=>part1 (ls.getD i 0):=by
 unfold rsum
 rw [sum_getD]
theorem lens_room {ns us:List Nat} {lim:Nat} (h:Used ns us) (hl:1≤lim∧lim≤15) (h2:us.length≤2^lim) :
  room (lens ns us lim)=if us.length=0 then 0 else if us.length=1 then 16384 else 32768:=by
 rw [room_rsum _ fun x hx=>by have:=lens_le h hl.1 h2 x hx;omega,part1_sum,lens_len]
 have e1:sumr ns.length (fun i=>part1 ((lens ns us lim).getD i 0))=sumr ns.length fun s=>part1 (LF us (lenG (cts ns us) (lim-1)) s):=sumr_congr fun i hi=>by rw [lens_at ns us lim hi]
 rw [e1,sum_LF h _ (fun _ x=>part1 x) (fun s=>rfl)]
 by_cases h0:us.length=0
 ·rw [if_pos h0,h0];rfl
 ·rw [if_neg h0]
  by_cases h1:us.length=1
  ·rw [if_pos h1,h1,sumr_succ,sumr_zero]
   unfold lenG
   rw [cts_len,if_pos h1]
   rfl
  ·rw [if_neg h1]
   have F:=h.fit hl.1 h2 (by omega)
   rw [←F.kraft (by omega),cts_len]
   refine sumr_congr fun i hi=>?_
   unfold lenG
   rw [cts_len,if_neg h1]
   have:=F.la_pos (i:=i) (by rw [cts_len];exact hi)
   unfold part1
   rw [if_neg (by omega)]
def spl (s:Int):Nat:=if s=16 then 3 else if s=17 then 3 else if s=18 then 11 else 1
def spm (s:Int):Nat:=if s=16 then 6 else if s=17 then 10 else if s=18 then 138 else 1
theorem span_any (s:Int) (w:World):Calls Tryz.prog 181 #[.int .i64 s] w fun e w'=>e = .returned (.tuple #[.int .i64 (spl s:Nat),.int .i64 (spm s:Nat)])∧w'=w:=by
 by_cases h1:s=16
 ·subst h1
  go_enter Tryz.func181,Tryz.ntmps181
  go_wp2
  go_ret2
  exact ⟨rfl,rfl⟩
 ·have b1:(s == 16)=false:=by simp [h1]
  by_cases h2:s=17
  ·subst h2
   go_enter Tryz.func181,Tryz.ntmps181
   go_wp2
   go_ret2
   exact ⟨rfl,rfl⟩
  ·have b2:(s == 17)=false:=by simp [h2]
   by_cases h3:s=18
   ·subst h3
    go_enter Tryz.func181,Tryz.ntmps181
    go_wp2
    go_ret2
    exact ⟨rfl,rfl⟩
   ·have b3:(s == 18)=false:=by simp [h3]
    have e1:=Lib.hid (show spl s=1 by simp [spl,h1,h2,h3])
    have e2:=Lib.hid (show spm s=1 by simp [spm,h1,h2,h3])
    rw [e1.out,e2.out]
    clear h1 h2 h3
    go_enter Tryz.func181,Tryz.ntmps181
    go_wp2
    go_ret2
    exact ⟨rfl,rfl⟩
def cnt (x:Int):List Int→Nat
 | []=>0
 | y::t=>if y=x then cnt x t+1 else 0
theorem cnt_le (x:Int) (l:List Int):cnt x l≤l.length:=by
 induction l with
 | nil=>exact Nat.le_refl _
 | cons y t ih=>rw [cnt];split <;> simp <;> omega
theorem cnt_at {x:Int} {l:List Int} {i:Nat} (h:i<cnt x l):l.getD i 0=x:=by
 induction l generalizing i with
 | nil=>simp [cnt] at h
 | cons y t ih=>
  rw [cnt] at h
  split at h
  ·next e=>
   cases i with
   | zero=>simpa using e
   | succ i=>rw [List.getD_cons_succ];exact ih (by omega)
  ·omega
theorem cnt_stop {x:Int} {l:List Int} (h:cnt x l<l.length):l.getD (cnt x l) 0≠x:=by
 induction l with
 | nil=>simp at h
 | cons y t ih=>
  rw [cnt] at h ⊢
  split at h
  ·next e=>rw [if_pos e,List.getD_cons_succ];exact ih (by simpa using h)
  ·next e=>rw [if_neg e];simpa using e
def rl (zs:List Int) (a:Nat):Nat:=cnt (zs.getD a 0) (zs.drop a)
theorem getD_drop (zs:List Int) (a i:Nat):(zs.drop a).getD i 0=zs.getD (a+i) 0:=by simp [List.getD]
theorem rl_pos {zs:List Int} {a:Nat} (h:a<zs.length):1≤rl zs a:=by
 unfold rl
 rw [List.drop_eq_getElem_cons h,cnt,if_pos (by simp [List.getD,h])]
 omega
theorem rl_le (zs:List Int) (a:Nat) (h:a≤zs.length):a+rl zs a≤zs.length:=by
 have:=cnt_le (zs.getD a 0) (zs.drop a)
 rw [List.length_drop] at this
 unfold rl
 omega
theorem rl_at {zs:List Int} {a i:Nat} (h:i<rl zs a):zs.getD (a+i) 0=zs.getD a 0:=by
 rw [←getD_drop];exact cnt_at h
theorem rl_stop {zs:List Int} {a:Nat} (h:a+rl zs a<zs.length):zs.getD (a+rl zs a) 0≠zs.getD a 0:=by
 rw [←getD_drop]
 exact cnt_stop (by rw [List.length_drop];unfold rl at h;omega)
theorem rl_end {zs:List Int} {a n m:Nat} (hn:n≤rl zs a) (hnm:n≤m) (ha:a≤zs.length) (hs:n=m∨zs.length≤a+n∨zs.getD (a+n) 0≠zs.getD a 0):n=min m (rl zs a):=by
 have h1:=rl_le zs a ha
 rcases hs with h | h | h
 ·omega
 ·omega
 ·have:¬n<rl zs a:=fun hlt=>h (rl_at hlt)
  omega
set_option maxHeartbeats 4000000 in
theorem same_at (ao:Option Addr) (c a:Nat) (zs:List Int) (w:World) (h:IS w ao zs) (ha:a<zs.length) (hl:zs.length≤1000) :
  Calls Tryz.prog 192 #[.slice ao zs.length c,.int .i64 a] w fun e w'=>e = .returned (.int .i64 (min 138 (rl zs a):Nat))∧∃ q,w'=w.drewN q:=by
 have HI:=Lib.hid h
 clear h
 obtain ⟨L,hL⟩:∃ L,L=zs.length:=⟨_,rfl⟩
 have HLN:=Lib.hid hL
 rw [←hL] at ha hl ⊢
 clear hL
 have ha':(a:Int)<L:=by omega
 go_enter Tryz.func192,Tryz.ntmps192
 go_wp2
 go_loopw [5] (fun v wr=>∃ n q:Nat,v = .int .i64 n∧1≤n∧n≤rl zs a∧n≤138∧wr=w.drewN q) (fun v _=>139-(intOf v).toNat)
 case atStart=>exact ⟨1,0,rfl,Nat.le_refl _,rl_pos (by rw [←HLN.out];exact ha),by omega,rfl⟩
 case round=>
  obtain ⟨n,q,rfl,hn1,hn,hn2,hw⟩:=hrel
  have HW:=Lib.hid hw
  have HI2:Hid (IS wr ao zs):=Lib.hid (by rw [hw];exact HI.out.drewN q)
  clear hw
  have HNR:=Lib.hid hn
  clear hn
  by_cases c1:n<138
  ·have c1':(n:Int)<138:=by omega
   obtain ⟨m,hm⟩:∃ m,m=a+n:=⟨_,rfl⟩
   have HM:=Lib.hid hm
   have e1:IntKind.i64.wrap ((a:Int)+n)=m:=by rw [IntKind.wrap_i64];omega
   by_cases c2:m<L
   ·have c2':(m:Int)<L:=by omega
    obtain ⟨b1,o1,rfl,q1⟩:=HI2.out.at (k:=m) (by rw [←HLN.out];exact c2)
    obtain ⟨b2,o2,e2,q2⟩:=HI2.out.at (k:=a) (by rw [←HLN.out];exact ha)
    obtain ⟨rfl,rfl⟩:b1=b2∧o1=o2:=by simpa using e2
    clear e2
    obtain ⟨x,hx⟩:∃ x,x=zs.getD m 0:=⟨_,rfl⟩
    obtain ⟨y,hy⟩:∃ y,y=zs.getD a 0:=⟨_,rfl⟩
    have HXY:=Lib.hid (And.intro hx hy)
    rw [←hx] at q1
    rw [←hy] at q2
    clear hx hy hm
    by_cases c3:x=y
    ·have c3':(x == y)=true:=by simp [c3]
     have HC3:=Lib.hid c3
     clear c3
     go_wp2
     go_quiet (fail)
     clear e1
     go_wp2
     go_roundw
     case rel=>
      refine ⟨n+1,_,by go_num,by omega,?_,by omega,by rw [HW.out,World.drewN_drewN]⟩
      have h1:=HNR.out
      rcases Nat.lt_or_ge n (rl zs a) with h2 | h2
      ·exact h2
      ·exfalso
       have h3:n=rl zs a:=by omega
       have h4:=rl_stop (zs:=zs) (a:=a) (by rw [←h3,←HM.out,←HLN.out];exact c2)
       rw [←h3,←HM.out,←HXY.out.1,←HXY.out.2] at h4
       exact h4 HC3.out
     case measure=>simp [intOf];omega
    ·have c3':(x == y)=false:=by simp [c3]
     have HC3:=Lib.hid c3
     clear c3
     go_wp2
     go_quiet (fail)
     clear e1
     go_wp2
     go_ret
     refine ⟨ret_int (congrArg _ (rl_end HNR.out hn2 (by rw [←HLN.out];omega) (.inr (.inr ?_)))),_,by rw [HW.out,World.drewN_drewN]⟩
     rw [←HM.out,←HXY.out.1,←HXY.out.2]
     exact HC3.out
   ·have c2':decide ((m:Int)<L)=false:=decide_eq_false (by omega)
    have c2'':(L:Int)≤m:=by omega
    clear hm
    go_wp2
    go_quiet (fail)
    clear e1
    go_wp2
    go_ret
    exact ⟨ret_int (congrArg _ (rl_end HNR.out hn2 (by rw [←HLN.out];omega) (.inr (.inl (by rw [←HM.out,←HLN.out];omega))))),_,by rw [HW.out,World.drewN_drewN]⟩
  ·have c1':decide ((n:Int)<138)=false:=decide_eq_false (by omega)
   have c1'':(138:Int)≤n:=by omega
   go_wp2
   go_quiet (fail)
   go_wp2
   go_ret
   exact ⟨ret_int (congrArg _ (rl_end HNR.out hn2 (by rw [←HLN.out];omega) (.inl (by omega)))),_,by rw [HW.out,World.drewN_drewN]⟩
def lsym (zs:List Int) (a:Nat):Int:=
 if zs.getD a 0=0∧11≤rl zs a then 18 else if zs.getD a 0=0∧3≤rl zs a then 17
 else if zs.getD a 0≠0∧3≤rl zs a∧0<a∧zs.getD (a-1) 0=zs.getD a 0 then 16 else zs.getD a 0
def lmany (zs:List Int) (a:Nat):Nat:=min (rl zs a) (spm (lsym zs a))
theorem spm_le (s:Int):spm s≤138:=by unfold spm;split <;> (try split) <;> (try split) <;> omega
theorem ret_two {x y:Int} {a b:Int} (h1:x=a) (h2:y=b):Ending.returned (.tuple #[.int .i64 x,.int .i64 y]) = .returned (.tuple #[.int .i64 a,.int .i64 b]):=by rw [h1,h2]
set_option maxHeartbeats 8000000 in
theorem longest_any (ao:Option Addr) (c a:Nat) (zs:List Int) (w:World) (h:IS w ao zs) (ha:a<zs.length) (hl:zs.length≤1000) :
  Calls Tryz.prog 180 #[.slice ao zs.length c,.int .i64 a] w fun e w'=>e = .returned (.tuple #[.int .i64 (lsym zs a),.int .i64 (lmany zs a:Nat)])∧∃ q,w'=w.drewN q:=by
 have HI:=Lib.hid h
 have HC:Hid (∀ n,Calls Tryz.prog 192 #[.slice ao zs.length c,.int .i64 a] (w.drewN n) fun e w'=>e = .returned (.int .i64 (min 138 (rl zs a):Nat))∧∃ q,w'=(w.drewN n).drewN q):=
  Lib.hid fun n=>same_at ao c a zs _ (h.drewN n) ha hl
 clear h
 have HLY:=Lib.hid (show lmany zs a=min (rl zs a) (spm (lsym zs a)) from rfl)
 have HLS:=Lib.hid (show lsym zs a=if zs.getD a 0=0∧11≤rl zs a then 18 else if zs.getD a 0=0∧3≤rl zs a then 17
 else if zs.getD a 0≠0∧3≤rl zs a∧0<a∧zs.getD (a-1) 0=zs.getD a 0 then 16 else zs.getD a 0 from rfl)
 obtain ⟨sy,hsy⟩:∃ sy,sy=lsym zs a:=⟨_,rfl⟩
 obtain ⟨my,hmy⟩:∃ my,my=lmany zs a:=⟨_,rfl⟩
 rw [←hsy] at HLS HLY ⊢
 rw [←hmy] at HLY ⊢
 clear hsy hmy
 obtain ⟨L,hL⟩:∃ L,L=zs.length:=⟨_,rfl⟩
 have HLN:=Lib.hid hL
 rw [←hL] at ha hl HC ⊢
 clear hL
 have ha':(a:Int)<L:=by omega
 obtain ⟨r,hr⟩:∃ r,r=rl zs a:=⟨_,rfl⟩
 rw [←hr] at HC HLS HLY
 clear hr
 obtain ⟨n,hn⟩:∃ n,n=min 138 r:=⟨_,rfl⟩
 rw [←hn] at HC
 have HN:=Lib.hid hn
 have hn3:n≤138:=by omega
 clear hn
 obtain ⟨b1,o1,rfl,q1⟩:=HI.out.at (k:=a) (by rw [←HLN.out];exact ha)
 obtain ⟨x,hx⟩:∃ x,x=zs.getD a 0:=⟨_,rfl⟩
 rw [←hx] at q1 HLS
 clear hx
 by_cases ca:a=0
 ·subst ca
  have HA:Hid (¬(0<0∧zs.getD (0-1) 0=x)):=Lib.hid (fun k=>by omega)
  have HQ:=Lib.hid True.intro
  rw [Nat.add_zero] at q1
  by_cases cx:x=0
  ·subst cx
   by_cases c11:11≤n
   ·have c11':(11:Int)≤n:=by omega
    have HSY:Hid (sy=18):=Lib.hid (by have h:=HLS.out;have h2:=HN.out;rw [h,if_pos ⟨rfl,by omega⟩])
    have HF:Hid ((18:Int)=sy∧((min n (spm 18):Nat):Int)=my):=Lib.hid ⟨HSY.out.symm,by have h:=HLY.out;have h2:=HN.out;have h3:=spm_le 18;rw [HSY.out] at h;omega⟩
    obtain ⟨sp,hsp⟩:∃ sp,sp=spm 18:=⟨_,rfl⟩
    have HSP:=Lib.hid hsp.symm
    have hsp2:sp≤138:=by rw [hsp];exact spm_le _
    rw [←hsp] at HF
    clear hsp
    go_enter Tryz.func180,Tryz.ntmps180
    go_wp2
    go_quiet ((go_at_call 192;exact Calls.quiet_of (HC.out _)))
    clear q1
    clear HC
    have HG:Hid (∀ m,∃ q,(w.drewN nq).drewN m=w.drewN q):=Lib.hid fun m=>⟨_,World.drewN_drewN _ _ _⟩
    generalize w.drewN nq=w2 at *
    go_wp2_with (first
     | (go_at_call 181;(refine (span_any _ _).mono ?_);rintro e w9 ⟨rfl,rfl⟩;rw [HSP.out]))
    all_goals go_ret2
    all_goals exact ⟨ret_two HF.out.1 (by have h9:=HF.out.2;omega),HG.out 0⟩
   ·have c11':decide ((11:Int)≤n)=false:=decide_eq_false (by omega)
    have c11'':(n:Int)<11:=by omega
    by_cases c3:3≤n
    ·have c3':(3:Int)≤n:=by omega
     have HSY:Hid (sy=17):=Lib.hid (by have h:=HLS.out;have h2:=HN.out;rw [h,if_neg (by omega),if_pos ⟨rfl,by omega⟩])
     have HF:Hid ((17:Int)=sy∧((min n (spm 17):Nat):Int)=my):=Lib.hid ⟨HSY.out.symm,by have h:=HLY.out;have h2:=HN.out;have h3:=spm_le 17;rw [HSY.out] at h;omega⟩
     obtain ⟨sp,hsp⟩:∃ sp,sp=spm 17:=⟨_,rfl⟩
     have HSP:=Lib.hid hsp.symm
     have hsp2:sp≤138:=by rw [hsp];exact spm_le _
     rw [←hsp] at HF
     clear hsp
     go_enter Tryz.func180,Tryz.ntmps180
     go_wp2
     go_quiet ((go_at_call 192;exact Calls.quiet_of (HC.out _)))
     clear q1
     clear HC
     have HG:Hid (∀ m,∃ q,(w.drewN nq).drewN m=w.drewN q):=Lib.hid fun m=>⟨_,World.drewN_drewN _ _ _⟩
     generalize w.drewN nq=w2 at *
     go_wp2_with (first
      | (go_at_call 181;(refine (span_any _ _).mono ?_);rintro e w9 ⟨rfl,rfl⟩;rw [HSP.out]))
     all_goals go_ret2
     all_goals exact ⟨ret_two HF.out.1 (by have h9:=HF.out.2;omega),HG.out 0⟩
    ·have c3':decide ((3:Int)≤n)=false:=decide_eq_false (by omega)
     have c3'':(n:Int)<3:=by omega
     have HSY:Hid (sy=0):=Lib.hid (by have h:=HLS.out;have h2:=HN.out;rw [h,if_neg (by omega),if_neg (by omega),if_neg (by omega)])
     have HF:Hid ((0:Int)=sy∧((min n (spm 0):Nat):Int)=my):=Lib.hid ⟨HSY.out.symm,by have h:=HLY.out;have h2:=HN.out;have h3:=spm_le 0;rw [HSY.out] at h;omega⟩
     obtain ⟨sp,hsp⟩:∃ sp,sp=spm 0:=⟨_,rfl⟩
     have HSP:=Lib.hid hsp.symm
     have hsp2:sp≤138:=by rw [hsp];exact spm_le _
     rw [←hsp] at HF
     clear hsp
     go_enter Tryz.func180,Tryz.ntmps180
     go_wp2
     go_quiet ((go_at_call 192;exact Calls.quiet_of (HC.out _)))
     clear q1
     clear HC
     have HG:Hid (∀ m,∃ q,(w.drewN nq).drewN m=w.drewN q):=Lib.hid fun m=>⟨_,World.drewN_drewN _ _ _⟩
     generalize w.drewN nq=w2 at *
     go_wp2_with (first
      | (go_at_call 181;(refine (span_any _ _).mono ?_);rintro e w9 ⟨rfl,rfl⟩;rw [HSP.out]))
     all_goals go_ret2
     all_goals exact ⟨ret_two HF.out.1 (by have h9:=HF.out.2;omega),HG.out 0⟩
  ·have cx':(x == 0)=false:=by simp [cx]
   have HX:=Lib.hid cx
   clear cx
   by_cases c3:3≤n
   ·have c3':(3:Int)≤n:=by omega
    have HSY:Hid (sy=x):=Lib.hid (by have h:=HLS.out;have h2:=HN.out;rw [h,if_neg (fun k=>HX.out k.1),if_neg (fun k=>HX.out k.1),if_neg (fun k=>HA.out k.2.2)])
    have HF:Hid ((x:Int)=sy∧((min n (spm x):Nat):Int)=my):=Lib.hid ⟨HSY.out.symm,by have h:=HLY.out;have h2:=HN.out;have h3:=spm_le x;rw [HSY.out] at h;omega⟩
    obtain ⟨sp,hsp⟩:∃ sp,sp=spm x:=⟨_,rfl⟩
    have HSP:=Lib.hid hsp.symm
    have hsp2:sp≤138:=by rw [hsp];exact spm_le _
    rw [←hsp] at HF
    clear hsp
    go_enter Tryz.func180,Tryz.ntmps180
    go_wp2
    go_quiet ((go_at_call 192;exact Calls.quiet_of (HC.out _)))
    clear q1
    clear HC
    have HG:Hid (∀ m,∃ q,(w.drewN nq).drewN m=w.drewN q):=Lib.hid fun m=>⟨_,World.drewN_drewN _ _ _⟩
    generalize w.drewN nq=w2 at *
    go_wp2_with (first
     | (go_at_call 181;(refine (span_any _ _).mono ?_);rintro e w9 ⟨rfl,rfl⟩;rw [HSP.out]))
    all_goals go_ret2
    all_goals exact ⟨ret_two HF.out.1 (by have h9:=HF.out.2;omega),HG.out 0⟩
   ·have c3':decide ((3:Int)≤n)=false:=decide_eq_false (by omega)
    have c3'':(n:Int)<3:=by omega
    have HSY:Hid (sy=x):=Lib.hid (by have h:=HLS.out;have h2:=HN.out;rw [h,if_neg (fun k=>HX.out k.1),if_neg (fun k=>HX.out k.1),if_neg (by omega)])
    have HF:Hid ((x:Int)=sy∧((min n (spm x):Nat):Int)=my):=Lib.hid ⟨HSY.out.symm,by have h:=HLY.out;have h2:=HN.out;have h3:=spm_le x;rw [HSY.out] at h;omega⟩
    obtain ⟨sp,hsp⟩:∃ sp,sp=spm x:=⟨_,rfl⟩
    have HSP:=Lib.hid hsp.symm
    have hsp2:sp≤138:=by rw [hsp];exact spm_le _
    rw [←hsp] at HF
    clear hsp
    go_enter Tryz.func180,Tryz.ntmps180
    go_wp2
    go_quiet ((go_at_call 192;exact Calls.quiet_of (HC.out _)))
    clear q1
    clear HC
    have HG:Hid (∀ m,∃ q,(w.drewN nq).drewN m=w.drewN q):=Lib.hid fun m=>⟨_,World.drewN_drewN _ _ _⟩
    generalize w.drewN nq=w2 at *
    go_wp2_with (first
     | (go_at_call 181;(refine (span_any _ _).mono ?_);rintro e w9 ⟨rfl,rfl⟩;rw [HSP.out]))
    all_goals go_ret2
    all_goals exact ⟨ret_two HF.out.1 (by have h9:=HF.out.2;omega),HG.out 0⟩
 ·have ca':(0:Int)<a:=by omega
  obtain ⟨am,ham⟩:∃ am,am=a-1:=⟨_,rfl⟩
  have e1:IntKind.i64.wrap ((a:Int)-1)=am:=by rw [IntKind.wrap_i64];omega
  have ham2:(am:Int)<L:=by omega
  obtain ⟨y,hy⟩:∃ y,y=zs.getD (a-1) 0:=⟨_,rfl⟩
  have HQ:Hid (∀ q,(w.drewN q).cell? ⟨b1,o1+am,none⟩=some (.int .i64 y)):=Lib.hid fun q=>by
   obtain ⟨b2,o2,e2,q2⟩:=(HI.out.drewN q).at (k:=am) (by rw [←HLN.out];omega)
   obtain ⟨rfl,rfl⟩:b1=b2∧o1=o2:=by simpa using e2
   rw [q2,hy,ham]
  have HAP:Hid (0<a):=Lib.hid (by omega)
  rw [←hy] at HLS
  clear hy ham ca
  by_cases cy:y=x
  ·obtain rfl:x=y:=cy.symm
   have HA:Hid (0<a∧x=x):=Lib.hid ⟨HAP.out,rfl⟩
   by_cases cx:x=0
   ·subst cx
    by_cases c11:11≤n
    ·have c11':(11:Int)≤n:=by omega
     have HSY:Hid (sy=18):=Lib.hid (by have h:=HLS.out;have h2:=HN.out;rw [h,if_pos ⟨rfl,by omega⟩])
     have HF:Hid ((18:Int)=sy∧((min n (spm 18):Nat):Int)=my):=Lib.hid ⟨HSY.out.symm,by have h:=HLY.out;have h2:=HN.out;have h3:=spm_le 18;rw [HSY.out] at h;omega⟩
     obtain ⟨sp,hsp⟩:∃ sp,sp=spm 18:=⟨_,rfl⟩
     have HSP:=Lib.hid hsp.symm
     have hsp2:sp≤138:=by rw [hsp];exact spm_le _
     rw [←hsp] at HF
     clear hsp
     go_enter Tryz.func180,Tryz.ntmps180
     go_wp2
     go_quiet ((go_at_call 192;exact Calls.quiet_of (HC.out _)))
     clear q1
     have q2:=HQ.out nq
     clear HC
     have HG:Hid (∀ m,∃ q,(w.drewN nq).drewN m=w.drewN q):=Lib.hid fun m=>⟨_,World.drewN_drewN _ _ _⟩
     generalize w.drewN nq=w2 at *
     go_wp2_with (first
      | (go_at_call 181;(refine (span_any _ _).mono ?_);rintro e w9 ⟨rfl,rfl⟩;rw [HSP.out]))
     all_goals go_ret2
     all_goals exact ⟨ret_two HF.out.1 (by have h9:=HF.out.2;omega),HG.out 0⟩
    ·have c11':decide ((11:Int)≤n)=false:=decide_eq_false (by omega)
     have c11'':(n:Int)<11:=by omega
     by_cases c3:3≤n
     ·have c3':(3:Int)≤n:=by omega
      have HSY:Hid (sy=17):=Lib.hid (by have h:=HLS.out;have h2:=HN.out;rw [h,if_neg (by omega),if_pos ⟨rfl,by omega⟩])
      have HF:Hid ((17:Int)=sy∧((min n (spm 17):Nat):Int)=my):=Lib.hid ⟨HSY.out.symm,by have h:=HLY.out;have h2:=HN.out;have h3:=spm_le 17;rw [HSY.out] at h;omega⟩
      obtain ⟨sp,hsp⟩:∃ sp,sp=spm 17:=⟨_,rfl⟩
      have HSP:=Lib.hid hsp.symm
      have hsp2:sp≤138:=by rw [hsp];exact spm_le _
      rw [←hsp] at HF
      clear hsp
      go_enter Tryz.func180,Tryz.ntmps180
      go_wp2
      go_quiet ((go_at_call 192;exact Calls.quiet_of (HC.out _)))
      clear q1
      have q2:=HQ.out nq
      clear HC
      have HG:Hid (∀ m,∃ q,(w.drewN nq).drewN m=w.drewN q):=Lib.hid fun m=>⟨_,World.drewN_drewN _ _ _⟩
      generalize w.drewN nq=w2 at *
      go_wp2_with (first
       | (go_at_call 181;(refine (span_any _ _).mono ?_);rintro e w9 ⟨rfl,rfl⟩;rw [HSP.out]))
      all_goals go_ret2
      all_goals exact ⟨ret_two HF.out.1 (by have h9:=HF.out.2;omega),HG.out 0⟩
     ·have c3':decide ((3:Int)≤n)=false:=decide_eq_false (by omega)
      have c3'':(n:Int)<3:=by omega
      have HSY:Hid (sy=0):=Lib.hid (by have h:=HLS.out;have h2:=HN.out;rw [h,if_neg (by omega),if_neg (by omega),if_neg (by omega)])
      have HF:Hid ((0:Int)=sy∧((min n (spm 0):Nat):Int)=my):=Lib.hid ⟨HSY.out.symm,by have h:=HLY.out;have h2:=HN.out;have h3:=spm_le 0;rw [HSY.out] at h;omega⟩
      obtain ⟨sp,hsp⟩:∃ sp,sp=spm 0:=⟨_,rfl⟩
      have HSP:=Lib.hid hsp.symm
      have hsp2:sp≤138:=by rw [hsp];exact spm_le _
      rw [←hsp] at HF
      clear hsp
      go_enter Tryz.func180,Tryz.ntmps180
      go_wp2
      go_quiet ((go_at_call 192;exact Calls.quiet_of (HC.out _)))
      clear q1
      have q2:=HQ.out nq
      clear HC
      have HG:Hid (∀ m,∃ q,(w.drewN nq).drewN m=w.drewN q):=Lib.hid fun m=>⟨_,World.drewN_drewN _ _ _⟩
      generalize w.drewN nq=w2 at *
      go_wp2_with (first
       | (go_at_call 181;(refine (span_any _ _).mono ?_);rintro e w9 ⟨rfl,rfl⟩;rw [HSP.out]))
      all_goals go_ret2
      all_goals exact ⟨ret_two HF.out.1 (by have h9:=HF.out.2;omega),HG.out 0⟩
   ·have cx':(x == 0)=false:=by simp [cx]
    have HX:=Lib.hid cx
    clear cx
    by_cases c3:3≤n
    ·have c3':(3:Int)≤n:=by omega
     have HSY:Hid (sy=16):=Lib.hid (by have h:=HLS.out;have h2:=HN.out;rw [h,if_neg (fun k=>HX.out k.1),if_neg (fun k=>HX.out k.1),if_pos ⟨HX.out,by omega,HA.out.1,HA.out.2⟩])
     have HF:Hid ((16:Int)=sy∧((min n (spm 16):Nat):Int)=my):=Lib.hid ⟨HSY.out.symm,by have h:=HLY.out;have h2:=HN.out;have h3:=spm_le 16;rw [HSY.out] at h;omega⟩
     obtain ⟨sp,hsp⟩:∃ sp,sp=spm 16:=⟨_,rfl⟩
     have HSP:=Lib.hid hsp.symm
     have hsp2:sp≤138:=by rw [hsp];exact spm_le _
     rw [←hsp] at HF
     clear hsp
     go_enter Tryz.func180,Tryz.ntmps180
     go_wp2
     go_quiet ((go_at_call 192;exact Calls.quiet_of (HC.out _)))
     clear q1
     have q2:=HQ.out nq
     clear HC
     have HG:Hid (∀ m,∃ q,(w.drewN nq).drewN m=w.drewN q):=Lib.hid fun m=>⟨_,World.drewN_drewN _ _ _⟩
     generalize w.drewN nq=w2 at *
     go_wp2_with (first
      | (go_at_call 181;(refine (span_any _ _).mono ?_);rintro e w9 ⟨rfl,rfl⟩;rw [HSP.out]))
     all_goals go_ret2
     all_goals exact ⟨ret_two HF.out.1 (by have h9:=HF.out.2;omega),HG.out 0⟩
    ·have c3':decide ((3:Int)≤n)=false:=decide_eq_false (by omega)
     have c3'':(n:Int)<3:=by omega
     have HSY:Hid (sy=x):=Lib.hid (by have h:=HLS.out;have h2:=HN.out;rw [h,if_neg (fun k=>HX.out k.1),if_neg (fun k=>HX.out k.1),if_neg (by omega)])
     have HF:Hid ((x:Int)=sy∧((min n (spm x):Nat):Int)=my):=Lib.hid ⟨HSY.out.symm,by have h:=HLY.out;have h2:=HN.out;have h3:=spm_le x;rw [HSY.out] at h;omega⟩
     obtain ⟨sp,hsp⟩:∃ sp,sp=spm x:=⟨_,rfl⟩
     have HSP:=Lib.hid hsp.symm
     have hsp2:sp≤138:=by rw [hsp];exact spm_le _
     rw [←hsp] at HF
     clear hsp
     go_enter Tryz.func180,Tryz.ntmps180
     go_wp2
     go_quiet ((go_at_call 192;exact Calls.quiet_of (HC.out _)))
     clear q1
     have q2:=HQ.out nq
     clear HC
     have HG:Hid (∀ m,∃ q,(w.drewN nq).drewN m=w.drewN q):=Lib.hid fun m=>⟨_,World.drewN_drewN _ _ _⟩
     generalize w.drewN nq=w2 at *
     go_wp2_with (first
      | (go_at_call 181;(refine (span_any _ _).mono ?_);rintro e w9 ⟨rfl,rfl⟩;rw [HSP.out]))
     all_goals go_ret2
     all_goals exact ⟨ret_two HF.out.1 (by have h9:=HF.out.2;omega),HG.out 0⟩
  ·have cy':(y == x)=false:=by simp [cy]
   have HA:Hid (¬(0<a∧y=x)):=Lib.hid (fun k=>cy k.2)
   clear cy
   by_cases cx:x=0
   ·subst cx
    by_cases c11:11≤n
    ·have c11':(11:Int)≤n:=by omega
     have HSY:Hid (sy=18):=Lib.hid (by have h:=HLS.out;have h2:=HN.out;rw [h,if_pos ⟨rfl,by omega⟩])
     have HF:Hid ((18:Int)=sy∧((min n (spm 18):Nat):Int)=my):=Lib.hid ⟨HSY.out.symm,by have h:=HLY.out;have h2:=HN.out;have h3:=spm_le 18;rw [HSY.out] at h;omega⟩
     obtain ⟨sp,hsp⟩:∃ sp,sp=spm 18:=⟨_,rfl⟩
     have HSP:=Lib.hid hsp.symm
     have hsp2:sp≤138:=by rw [hsp];exact spm_le _
     rw [←hsp] at HF
     clear hsp
     go_enter Tryz.func180,Tryz.ntmps180
     go_wp2
     go_quiet ((go_at_call 192;exact Calls.quiet_of (HC.out _)))
     clear q1
     have q2:=HQ.out nq
     clear HC
     have HG:Hid (∀ m,∃ q,(w.drewN nq).drewN m=w.drewN q):=Lib.hid fun m=>⟨_,World.drewN_drewN _ _ _⟩
     generalize w.drewN nq=w2 at *
     go_wp2_with (first
      | (go_at_call 181;(refine (span_any _ _).mono ?_);rintro e w9 ⟨rfl,rfl⟩;rw [HSP.out]))
     all_goals go_ret2
     all_goals exact ⟨ret_two HF.out.1 (by have h9:=HF.out.2;omega),HG.out 0⟩
    ·have c11':decide ((11:Int)≤n)=false:=decide_eq_false (by omega)
     have c11'':(n:Int)<11:=by omega
     by_cases c3:3≤n
     ·have c3':(3:Int)≤n:=by omega
      have HSY:Hid (sy=17):=Lib.hid (by have h:=HLS.out;have h2:=HN.out;rw [h,if_neg (by omega),if_pos ⟨rfl,by omega⟩])
      have HF:Hid ((17:Int)=sy∧((min n (spm 17):Nat):Int)=my):=Lib.hid ⟨HSY.out.symm,by have h:=HLY.out;have h2:=HN.out;have h3:=spm_le 17;rw [HSY.out] at h;omega⟩
      obtain ⟨sp,hsp⟩:∃ sp,sp=spm 17:=⟨_,rfl⟩
      have HSP:=Lib.hid hsp.symm
      have hsp2:sp≤138:=by rw [hsp];exact spm_le _
      rw [←hsp] at HF
      clear hsp
      go_enter Tryz.func180,Tryz.ntmps180
      go_wp2
      go_quiet ((go_at_call 192;exact Calls.quiet_of (HC.out _)))
      clear q1
      have q2:=HQ.out nq
      clear HC
      have HG:Hid (∀ m,∃ q,(w.drewN nq).drewN m=w.drewN q):=Lib.hid fun m=>⟨_,World.drewN_drewN _ _ _⟩
      generalize w.drewN nq=w2 at *
      go_wp2_with (first
       | (go_at_call 181;(refine (span_any _ _).mono ?_);rintro e w9 ⟨rfl,rfl⟩;rw [HSP.out]))
      all_goals go_ret2
      all_goals exact ⟨ret_two HF.out.1 (by have h9:=HF.out.2;omega),HG.out 0⟩
     ·have c3':decide ((3:Int)≤n)=false:=decide_eq_false (by omega)
      have c3'':(n:Int)<3:=by omega
      have HSY:Hid (sy=0):=Lib.hid (by have h:=HLS.out;have h2:=HN.out;rw [h,if_neg (by omega),if_neg (by omega),if_neg (by omega)])
      have HF:Hid ((0:Int)=sy∧((min n (spm 0):Nat):Int)=my):=Lib.hid ⟨HSY.out.symm,by have h:=HLY.out;have h2:=HN.out;have h3:=spm_le 0;rw [HSY.out] at h;omega⟩
      obtain ⟨sp,hsp⟩:∃ sp,sp=spm 0:=⟨_,rfl⟩
      have HSP:=Lib.hid hsp.symm
      have hsp2:sp≤138:=by rw [hsp];exact spm_le _
      rw [←hsp] at HF
      clear hsp
      go_enter Tryz.func180,Tryz.ntmps180
      go_wp2
      go_quiet ((go_at_call 192;exact Calls.quiet_of (HC.out _)))
      clear q1
      have q2:=HQ.out nq
      clear HC
      have HG:Hid (∀ m,∃ q,(w.drewN nq).drewN m=w.drewN q):=Lib.hid fun m=>⟨_,World.drewN_drewN _ _ _⟩
      generalize w.drewN nq=w2 at *
      go_wp2_with (first
       | (go_at_call 181;(refine (span_any _ _).mono ?_);rintro e w9 ⟨rfl,rfl⟩;rw [HSP.out]))
      all_goals go_ret2
      all_goals exact ⟨ret_two HF.out.1 (by have h9:=HF.out.2;omega),HG.out 0⟩
   ·have cx':(x == 0)=false:=by simp [cx]
    have HX:=Lib.hid cx
    clear cx
    by_cases c3:3≤n
    ·have c3':(3:Int)≤n:=by omega
     have HSY:Hid (sy=x):=Lib.hid (by have h:=HLS.out;have h2:=HN.out;rw [h,if_neg (fun k=>HX.out k.1),if_neg (fun k=>HX.out k.1),if_neg (fun k=>HA.out k.2.2)])
     have HF:Hid ((x:Int)=sy∧((min n (spm x):Nat):Int)=my):=Lib.hid ⟨HSY.out.symm,by have h:=HLY.out;have h2:=HN.out;have h3:=spm_le x;rw [HSY.out] at h;omega⟩
     obtain ⟨sp,hsp⟩:∃ sp,sp=spm x:=⟨_,rfl⟩
     have HSP:=Lib.hid hsp.symm
     have hsp2:sp≤138:=by rw [hsp];exact spm_le _
     rw [←hsp] at HF
     clear hsp
     go_enter Tryz.func180,Tryz.ntmps180
     go_wp2
     go_quiet ((go_at_call 192;exact Calls.quiet_of (HC.out _)))
     clear q1
     have q2:=HQ.out nq
     clear HC
     have HG:Hid (∀ m,∃ q,(w.drewN nq).drewN m=w.drewN q):=Lib.hid fun m=>⟨_,World.drewN_drewN _ _ _⟩
     generalize w.drewN nq=w2 at *
     go_wp2_with (first
      | (go_at_call 181;(refine (span_any _ _).mono ?_);rintro e w9 ⟨rfl,rfl⟩;rw [HSP.out]))
     all_goals go_ret2
     all_goals exact ⟨ret_two HF.out.1 (by have h9:=HF.out.2;omega),HG.out 0⟩
    ·have c3':decide ((3:Int)≤n)=false:=decide_eq_false (by omega)
     have c3'':(n:Int)<3:=by omega
     have HSY:Hid (sy=x):=Lib.hid (by have h:=HLS.out;have h2:=HN.out;rw [h,if_neg (fun k=>HX.out k.1),if_neg (fun k=>HX.out k.1),if_neg (by omega)])
     have HF:Hid ((x:Int)=sy∧((min n (spm x):Nat):Int)=my):=Lib.hid ⟨HSY.out.symm,by have h:=HLY.out;have h2:=HN.out;have h3:=spm_le x;rw [HSY.out] at h;omega⟩
     obtain ⟨sp,hsp⟩:∃ sp,sp=spm x:=⟨_,rfl⟩
     have HSP:=Lib.hid hsp.symm
     have hsp2:sp≤138:=by rw [hsp];exact spm_le _
     rw [←hsp] at HF
     clear hsp
     go_enter Tryz.func180,Tryz.ntmps180
     go_wp2
     go_quiet ((go_at_call 192;exact Calls.quiet_of (HC.out _)))
     clear q1
     have q2:=HQ.out nq
     clear HC
     have HG:Hid (∀ m,∃ q,(w.drewN nq).drewN m=w.drewN q):=Lib.hid fun m=>⟨_,World.drewN_drewN _ _ _⟩
     generalize w.drewN nq=w2 at *
     go_wp2_with (first
      | (go_at_call 181;(refine (span_any _ _).mono ?_);rintro e w9 ⟨rfl,rfl⟩;rw [HSP.out]))
     all_goals go_ret2
     all_goals exact ⟨ret_two HF.out.1 (by have h9:=HF.out.2;omega),HG.out 0⟩
def icl (r:List (Int × Int)):List Value:=r.flatMap fun x=>[.int .i64 x.1,.int .i64 x.2]
theorem icl_cons (x:Int × Int) (r:List (Int × Int)):icl (x::r) = .int .i64 x.1 :: .int .i64 x.2::icl r:=rfl
theorem icl_app (a b:List (Int × Int)):icl a++icl b=icl (a++b):=by simp [icl]
theorem icl_len (r:List (Int × Int)):(icl r).length=r.length*2:=by
 induction r with
 | nil=>rfl
 | cons x r ih=>rw [icl_cons,List.length_cons,List.length_cons,ih,List.length_cons];omega
theorem icl_one (r:List (Int × Int)):∀ u∈icl r,u.oneCell'=true:=by
 induction r with
 | nil=>intro u hu;cases hu
 | cons x r ih=>
  intro u hu
  rw [icl_cons,List.mem_cons,List.mem_cons] at hu
  rcases hu with rfl | rfl | hu
  ·rfl
  ·rfl
  ·exact ih u hu
def itm (r:List (Int × Int)) (k:Nat):Int × Int:=r.getD k (0,0)
theorem icl_at (r:List (Int × Int)) (k:Nat) (h:k<r.length):(icl r)[k*2]? = some (.int .i64 (itm r k).1)∧(icl r)[k*2+1]? = some (.int .i64 (itm r k).2):=by
 induction r generalizing k with
 | nil=>simp at h
 | cons x r ih=>
  cases k with
  | zero=>exact ⟨rfl,rfl⟩
  | succ k=>
   have:=ih k (by simpa using h)
   rw [icl_cons,show (k+1)*2=k*2+1+1 by omega,List.getElem?_cons_succ,List.getElem?_cons_succ,List.getElem?_cons_succ,List.getElem?_cons_succ]
   exact this
def TS (w:World) (ao:Option Addr) (r:List (Int × Int)):Prop:=r=[]∨∃ b off,ao=some ⟨b,off,none⟩∧w.rangeAt b off (icl r)
theorem TS.on {w w':World} {ao:Option Addr} {r:List (Int × Int)} (h:TS w ao r) (hb:Below w.heap.size w w'):TS w' ao r:=by
 rcases h with h | ⟨b,off,rfl,hc⟩
 ·exact .inl h
 ·exact .inr ⟨b,off,rfl,fun j v hv=>by
   have:=hc j v hv
   exact (hb.cell (World.block_lt_of_cell? w _ this)).trans this⟩
theorem TS.at {w:World} {ao:Option Addr} {r:List (Int × Int)} (h:TS w ao r) {k:Nat} (hk:k<r.length) :
  ∃ b off,ao=some ⟨b,off,none⟩∧w.cell? ⟨b,off+k*2,none⟩=some (.int .i64 (itm r k).1)∧w.cell? ⟨b,off+k*2+1,none⟩=some (.int .i64 (itm r k).2):=by
 rcases h with rfl | ⟨b,off,rfl,hc⟩
 ·simp at hk
 ·have:=icl_at r k hk
  exact ⟨b,off,rfl,hc _ _ this.1,by have:=hc _ _ this.2;rwa [←Nat.add_assoc] at this⟩
theorem own_ts {w:World} {base e:Nat} {ao:Option Addr} {c n:Nat} {r:List (Int × Int)} (h:w.ownsRow base e 2 (.slice ao n c) n (icl r)) (hn:r.length=n):TS w ao r:=by
 subst hn
 rcases h.2 with ⟨e,h0⟩ | ⟨g,cap,cur,e,hbg,hh,hnc,hcm,hcs,htake⟩
 ·exact .inl (List.eq_nil_of_length_eq_zero h0)
 ·simp only [Value.slice.injEq] at e
  obtain ⟨rfl,_,rfl⟩:=e
  refine .inr ⟨g,0,rfl,fun j v hv=>?_⟩
  have hj:j<r.length*2:=by
   have:=(List.getElem?_eq_some_iff.1 hv).1
   rwa [icl_len] at this
  rw [Nat.zero_add,World.ownsRow.cellAt h j (by omega),hv]
theorem own_ge {w:World} {base e:Nat} {ao:Option Addr} {c n:Nat} {r:List (Int × Int)} (h:w.ownsRow base e 2 (.slice ao n c) n (icl r)):∀ b off,ao=some ⟨b,off,none⟩→base≤b:=by
 intro b off ha
 rcases h.2 with ⟨e,h0⟩ | ⟨g,cap,cur,e,hbg,hh,hnc,hcm,hcs,htake⟩
 ·simp only [Value.slice.injEq] at e
  obtain ⟨rfl,_,rfl⟩:=e
  cases ha
 ·simp only [Value.slice.injEq] at e
  obtain ⟨rfl,_,rfl⟩:=e
  cases ha
  exact hbg
theorem at35:AT 143 187 (.agg #[.int .i64 0,.int .i64 0]) 2 16:=⟨by kernel_rfl,by kernel_rfl,rfl,by omega⟩
theorem cells_item (w:World) (B:Nat) (hB:w.heap.size=B) (e:TypeId) (x:Int × Int):CellsAt (w.alloc (.cells #[.int .i64 x.1,.int .i64 x.2] e)) (.slice (some ⟨B,0,none⟩) 1 1) 1 (icl [x]):=by
 subst hB
 refine .inr ⟨_,1,rfl,fun j u hu=>?_⟩
 rw [Addr.add_lit,Nat.zero_add,(Blk.made w e _).cell]
 have:j<2:=by
  have:=(List.getElem?_eq_some_iff.1 hu).1
  simpa [icl] using this
 rcases (by omega:j=0∨j=1) with rfl | rfl
 ·simpa [icl] using hu
 ·simpa [icl] using hu
structure Tr (w:World) (e:Nat) (P:List (Int × Int)) (v:Value) (wr:World):Prop where
 own:wr.ownsRow w.heap.size e 2 v P.length (icl P)
 below:Below w.heap.size w wr
theorem Tr.put {w wr w1:World} {e:Nat} {P R:List (Int × Int)} {v v':Value} {n:Nat} {o:Obj} (h:Tr w e P v wr) (hA:Apg (wr.alloc o) w.heap.size e 2 v n (icl P++icl R) v' w1) (hn:n=P.length+R.length):Tr w e (P++R) v' w1:=by
 subst hn
 refine ⟨?_,h.below.trans (hA.alloc.below h.own h.below.size)⟩
 rw [List.length_append,←icl_app]
 exact hA.own
theorem Tr.drewN {w wr:World} {e:Nat} {P:List (Int × Int)} {v:Value} (h:Tr w e P v wr) (q:Nat):Tr w e P v (wr.drewN q):=
 ⟨ownsRow_below h.own (below_drewN (Below.refl _ _) q),below_drewN h.below q⟩
def pit (zs:List Int) (a:Nat):Int × Int:=(lsym zs a,((lmany zs a-spl (lsym zs a):Nat):Int))
def pk (zs:List Int):Nat→Nat→List (Int × Int)
 | 0,_=>[]
 | f+1,a=>if a<zs.length then pit zs a::pk zs f (a+lmany zs a) else []
def pkl (zs:List Int):List (Int × Int):=pk zs zs.length 0
theorem lsym_or (zs:List Int) (a:Nat):(lsym zs a=18∧11≤rl zs a)∨(lsym zs a=17∧3≤rl zs a)∨(lsym zs a=16∧3≤rl zs a)∨lsym zs a=zs.getD a 0:=by
 unfold lsym
 split
 ·next h=>exact .inl ⟨rfl,h.2⟩
 ·split
  ·next h=>exact .inr (.inl ⟨rfl,h.2⟩)
  ·split
   ·next h=>exact .inr (.inr (.inl ⟨rfl,h.2.1⟩))
   ·exact .inr (.inr (.inr rfl))
theorem spl_small {x:Int} (h:x≤15):spl x=1∧spm x=1:=by
 unfold spl spm
 constructor
 ·rw [if_neg (by omega),if_neg (by omega),if_neg (by omega)]
 ·rw [if_neg (by omega),if_neg (by omega),if_neg (by omega)]
theorem lmany_ge {zs:List Int} {a:Nat} (ha:a<zs.length) (hb:zs.getD a 0≤15):spl (lsym zs a)≤lmany zs a∧1≤spl (lsym zs a)∧lmany zs a≤138∧a+lmany zs a≤zs.length:=by
 have h1:=rl_pos ha
 have h2:=rl_le zs a (by omega)
 have h3:=spm_le (lsym zs a)
 unfold lmany
 rcases lsym_or zs a with ⟨h,k⟩ | ⟨h,k⟩ | ⟨h,k⟩ | h
 ·rw [h] at h3 ⊢;simp [spl,spm];omega
 ·rw [h] at h3 ⊢;simp [spl,spm];omega
 ·rw [h] at h3 ⊢;simp [spl,spm];omega
 ·rw [h] at h3 ⊢;rw [(spl_small hb).1,(spl_small hb).2];omega
theorem pk_fuel {zs:List Int} (hz:∀ k,k<zs.length→zs.getD k 0≤15) (f:Nat):∀ g a,zs.length≤a+f→zs.length≤a+g→pk zs f a=pk zs g a:=by
 induction f with
 | zero=>
  intro g a h1 h2
  cases g with
  | zero=>rfl
  | succ g=>rw [pk,pk,if_neg (by omega)]
 | succ f ih=>
  intro g a h1 h2
  by_cases ha:a<zs.length
  ·have:=lmany_ge ha (hz a ha)
   cases g with
   | zero=>omega
   | succ g=>rw [pk,pk,if_pos ha,if_pos ha,ih g _ (by omega) (by omega)]
  ·cases g with
   | zero=>rw [pk,pk,if_neg ha]
   | succ g=>rw [pk,pk,if_neg ha,if_neg ha]
theorem pk_step {zs:List Int} (hz:∀ k,k<zs.length→zs.getD k 0≤15) {a:Nat} (ha:a<zs.length):pk zs (zs.length-a) a=pit zs a::pk zs (zs.length-(a+lmany zs a)) (a+lmany zs a):=by
 have h:=lmany_ge ha (hz a ha)
 obtain ⟨f,hf⟩:∃ f,zs.length-a=f+1:=⟨zs.length-a-1,by omega⟩
 rw [hf,pk,if_pos ha,pk_fuel hz f (zs.length-(a+lmany zs a)) _ (by omega) (by omega)]
theorem pk_end {zs:List Int} {a:Nat} (ha:zs.length≤a) (f:Nat):pk zs f a=[]:=by
 cases f with
 | zero=>rfl
 | succ f=>rw [pk,if_neg (by omega)]
def Packed (zs:List Int) (w:World) (e:Ending) (w':World):Prop:=∃ ao c,e = .returned (.slice ao (pkl zs).length c)∧TS w' ao (pkl zs)∧Below w.heap.size w w'∧∀ b off,ao=some ⟨b,off,none⟩→w.heap.size≤b
set_option maxHeartbeats 8000000 in
theorem pack_fine (ao:Option Addr) (c:Nat) (zs:List Int) (w:World) (h:IS w ao zs) (hl:zs.length≤1000) (hb:anyBad 0 15 zs=false) :
  Calls Tryz.prog 162 #[.slice ao zs.length c] w (Packed zs w):=by
 have HI:=Lib.hid h
 have HBD:=Lib.hid hb
 have HZ:Hid (∀ k,k<zs.length→zs.getD k 0≤15):=Lib.hid fun k hk=>by
  have h1:=List.any_eq_false.1 hb (zs.getD k 0) (by rw [List.getD_eq_getElem?_getD,List.getElem?_eq_getElem hk];exact List.getElem_mem hk)
  have h2:¬Bad 0 15 (zs.getD k 0):=fun e=>h1 (decide_eq_true e)
  unfold Bad at h2;omega
 clear h hb
 go_enter Tryz.func162,Tryz.ntmps162
 go_wp2_with (first
  | (go_at_call 174;refine (outside_any _ _ _).mono ?_;rintro e w1 ⟨p,q,rfl,hk,hb,hp,hq⟩;have HK:=Lib.hid hk;have HB:=Lib.hid hb;clear hk hb;unfold fnOut)
  | (go_at_call 175;refine (contains_any ao c p q 0 15 zs w1 (by omega) (HI.out.below HB.out) HK.out).mono ?_;rintro e w2 ⟨rfl,rfl⟩;rw [HBD.out]))
 have H0:Hid (Tr w 187 [] (.slice none 0 0) w2):=Lib.hid ⟨World.ownsRow_nil _ _ _ _,HB.out⟩
 clear HK HB HBD
 go_loopw [3,4] (fun s3 s4 wr=>∃ (a:Nat) (P:List (Int × Int)) (a3:Option Addr) (c3:Nat),s3 = .slice a3 P.length c3∧s4 = .int .i64 a∧a≤zs.length∧P.length≤a∧P++pk zs (zs.length-a) a=pkl zs∧Tr w 187 P (.slice a3 P.length c3) wr) (fun _ s4 _=>zs.length-(intOf s4).toNat)
 case atStart=>exact ⟨0,[],none,0,rfl,rfl,Nat.zero_le _,Nat.le_refl _,rfl,H0.out⟩
 case round=>
  obtain ⟨a,P,a3,c3,rfl,rfl,hal,hpa,hq,hT⟩:=hrel
  have HQ:=Lib.hid hq
  have HT:=Lib.hid hT
  clear hq hT H0
  by_cases hlt:a<zs.length
  ·have hlt':(a:Int)<zs.length:=by omega
   obtain ⟨hm1,hm2,hm3,hm4⟩:=lmany_ge hlt (HZ.out a hlt)
   obtain ⟨sy,hsy⟩:∃ sy,sy=lsym zs a:=⟨_,rfl⟩
   obtain ⟨m,hm⟩:∃ m,m=lmany zs a:=⟨_,rfl⟩
   obtain ⟨l,hll⟩:∃ l,l=spl (lsym zs a):=⟨_,rfl⟩
   obtain ⟨d,hd⟩:∃ d,d=m-l:=⟨_,rfl⟩
   have HS:=Lib.hid (And.intro hsy (And.intro hm (And.intro hll hd)))
   rw [←hll] at hm1 hm2
   rw [←hm] at hm1 hm3 hm4
   have e1:IntKind.i64.wrap ((m:Int)-l)=d:=by rw [IntKind.wrap_i64];omega
   have e2:IntKind.i64.wrap ((a:Int)+m)=((a+m:Nat):Int):=by rw [IntKind.wrap_i64];omega
   have HP:Hid (pit zs a=(sy,(d:Int))):=Lib.hid (by unfold pit;rw [hd,hm,hll,hsy])
   clear hsy hm hll hd
   go_wp2_with (first
    | (go_at_call 180;refine (longest_any ao c a zs wr (HI.out.below HT.out.below) hlt hl).mono ?_;rintro e w3 ⟨rfl,q,rfl⟩;rw [←HS.out.1,←HS.out.2.1];have HT2:=Lib.hid (HT.out.drewN q);generalize wr.drewN q=w4 at HT2 ⊢)
    | (go_at_call 181;refine (span_any _ _).mono ?_;rintro e w5 ⟨rfl,rfl⟩;rw [show spl sy=l by rw [HS.out.2.2.1,←HS.out.1]])
    | (refine wpList_append_g at35 rfl (.tmp 27) (.tmp 33) rfl w.heap.size (.slice a3 P.length c3) (.slice (some ⟨w5.heap.size,0,none⟩) 1 1) P.length 1 (icl P) (icl [(sy,(d:Int))]) rfl rfl (World.ownsRow.alloc (w:=w5) HT2.out.own _) (cells_item w5 _ rfl 187 (sy,(d:Int))) rfl (icl_one _) (by simp;have:=HT2.out.below.size;omega) (by omega) (by omega) ?_;intro ao2 cc2 w6 hA;have H3:=Lib.hid (HT2.out.put hA rfl);clear hA))
   go_roundw
   case rel=>
    refine ⟨a+m,P++[(sy,(d:Int))],ao2,cc2,by rw [List.length_append];rfl,by go_num,hm4,by rw [List.length_append];simp;omega,?_,by rw [List.length_append];exact H3.out⟩
    have h1:=HQ.out
    rw [pk_step HZ.out hlt,HP.out,←HS.out.2.1] at h1
    rw [List.append_assoc]
    exact h1
   case measure=>simp [intOf];omega
  ·have hge:a=zs.length:=by omega
   subst hge
   go_wp2
   go_ret
   have hq2:=HQ.out
   rw [pk_end (Nat.le_refl _),List.append_nil] at hq2
   unfold Packed
   rw [←hq2]
   exact ⟨a3,c3,rfl,own_ts HT.out.own rfl,HT.out.below,own_ge HT.out.own⟩
def tv (s:Int) (ts:List Int):Int:=if s=16 then ts.getD (ts.length-1) 0 else if s=17 then 0 else if s=18 then 0 else s
def Wi (s x:Int) (n:Nat):Prop:=Bad 0 18 s∨Bad 0 ((spm s:Int)-spl s) x∨(s=16∧n=0)∨(320-n:Int)<spl s+x
instance (s x:Int) (n:Nat):Decidable (Wi s x n):=inferInstanceAs (Decidable (_∨_))
theorem sp_lim (s:Int):1≤spl s∧spl s≤11∧spl s≤spm s∧spm s≤138:=by
 unfold spl spm
 by_cases h1:s=16
 ·simp [h1]
 ·by_cases h2:s=17
  ·simp [h2]
  ·by_cases h3:s=18
   ·simp [h3]
   ·simp [h1,h2,h3]
def un:List (Int × Int)→List Int→Option (List Int)
 | [],ts=>some ts
 | (s,x)::r,ts=>if Wi s x ts.length then none else un r (ts++List.replicate ((spl s:Int)+x).toNat (tv s ts))
theorem lsym_sure (zs:List Int) (a:Nat):(lsym zs a=18∧zs.getD a 0=0)∨(lsym zs a=17∧zs.getD a 0=0)∨(lsym zs a=16∧0<a∧zs.getD (a-1) 0=zs.getD a 0)∨lsym zs a=zs.getD a 0:=by
 unfold lsym
 split
 ·next h=>exact .inl ⟨rfl,h.1⟩
 ·split
  ·next h=>exact .inr (.inl ⟨rfl,h.1⟩)
  ·split
   ·next h=>exact .inr (.inr (.inl ⟨rfl,h.2.2⟩))
   ·exact .inr (.inr (.inr rfl))
theorem tv_take {zs:List Int} {a:Nat} (ha:a<zs.length) (hb:zs.getD a 0≤15):tv (lsym zs a) (zs.take a)=zs.getD a 0:=by
 rcases lsym_sure zs a with ⟨h,k⟩ | ⟨h,k⟩ | ⟨h,k1,k2⟩ | h
 ·rw [h,k];rfl
 ·rw [h,k];rfl
 ·rw [h,tv,if_pos rfl,List.length_take,←k2,Nat.min_eq_left (by omega)]
  simp only [List.getD]
  rw [List.getElem?_take_of_lt (by omega)]
 ·rw [h,tv,if_neg (by omega),if_neg (by omega),if_neg (by omega)]
theorem take_run {zs:List Int} {a m:Nat} (hm:m≤rl zs a) (ha:a≤zs.length):zs.take (a+m)=zs.take a++List.replicate m (zs.getD a 0):=by
 have h2:=rl_le zs a ha
 rw [List.take_add]
 congr 1
 apply List.ext_getElem
 ·rw [List.length_take,List.length_drop,List.length_replicate];omega
 ·intro i h1 h3
  rw [List.getElem_replicate,List.getElem_take,List.getElem_drop]
  rw [List.length_take,List.length_drop] at h1
  have h4:=rl_at (zs:=zs) (a:=a) (i:=i) (by omega)
  rw [←h4]
  simp only [List.getD]
  rw [List.getElem?_eq_getElem (by omega)]
  rfl
theorem pit_ok {zs:List Int} {a:Nat} (hl:zs.length≤320) (ha:a<zs.length) (hb:0≤zs.getD a 0∧zs.getD a 0≤15):¬Wi (lsym zs a) ((lmany zs a-spl (lsym zs a):Nat):Int) a:=by
 have h1:=lmany_ge ha hb.2
 have h2:=sp_lim (lsym zs a)
 have h3:lmany zs a≤spm (lsym zs a):=Nat.min_le_right _ _
 have h4:0≤lsym zs a∧lsym zs a≤18∧(lsym zs a=16→0<a):=by
  rcases lsym_sure zs a with ⟨h,k⟩ | ⟨h,k⟩ | ⟨h,k1,k2⟩ | h <;> rw [h] <;> refine ⟨by omega,by omega,fun e=>?_⟩ <;> omega
 unfold Wi Bad
 rintro (h | h | h | h)
 ·omega
 ·omega
 ·have:=h4.2.2 h.1;omega
 ·omega
theorem un_pk {zs:List Int} (hl:zs.length≤320) (hb:∀ k,k<zs.length→0≤zs.getD k 0∧zs.getD k 0≤15) (n:Nat):∀ a,a≤zs.length→zs.length-a≤n→un (pk zs (zs.length-a) a) (zs.take a)=some zs:=by
 induction n with
 | zero=>
  intro a h1 h2
  have e:a=zs.length:=by omega
  subst e
  rw [pk_end (Nat.le_refl _),un,List.take_length]
 | succ n ih=>
  intro a h1 h2
  by_cases ha:a<zs.length
  ·have h3:=lmany_ge ha (hb a ha).2
   have h4:lmany zs a≤rl zs a:=Nat.min_le_left _ _
   rw [pk_step (fun k hk=>(hb k hk).2) ha]
   unfold pit
   rw [un,List.length_take,Nat.min_eq_left (by omega),if_neg (pit_ok hl ha (hb a ha)),tv_take ha (hb a ha).2]
   rw [show ((spl (lsym zs a):Int)+((lmany zs a-spl (lsym zs a):Nat):Int)).toNat=lmany zs a by omega,←take_run h4 h1]
   exact ih _ h3.2.2.2 (by omega)
  ·have e:a=zs.length:=by omega
   subst e
   rw [pk_end (Nat.le_refl _),un,List.take_length]
theorem un_pkl {zs:List Int} (hl:zs.length≤320) (hb:∀ k,k<zs.length→0≤zs.getD k 0∧zs.getD k 0≤15):un (pkl zs) []=some zs:=by
 have:=un_pk hl hb zs.length 0 (Nat.zero_le _) (by omega)
 simpa [pkl] using this
end
end Go.Proofs.YtacpfpghokcdlaaGreatDoor.Y
namespace Go.Proofs.YtacpfpghokcdlaaGreatDoor
set_option maxRecDepth 100000
theorem sp_cn {a b:List Nat} (h:cn a=cn b) (n:Nat):sp a n=sp b n:=by
 induction n with
 | zero=>rfl
 | succ n ih=>rw [sp,sp,ih,h]
theorem fp_cn {a b:List Nat} (h:cn a=cn b) (n:Nat):fp a n=fp b n:=by
 induction n with
 | zero=>rfl
 | succ n ih=>rw [fp,fp,ih,h]
theorem room_cn {a b:List Nat} (h:cn a=cn b):room a=room b:=sp_cn h 16
theorem many_cn {a b:List Nat} (h:cn a=cn b):many a=many b:=fp_cn h 16
theorem room_y (ls:List Nat):Y.room ls=room ls:=by
 have:∀ n,Y.sp ls n=sp ls n:=by
  intro n
  induction n with
  | zero=>rfl
  | succ n ih=>rw [Y.sp,sp,ih];rfl
 exact this 16
theorem count_zeros {l:List Nat} (h:∀ x∈l,x=0) {n:Nat} (hn:n≠0):l.count n=0:=by
 rw [List.count_eq_zero]
 intro hm
 exact hn (h n hm)
theorem cn_take {ls:List Nat} {k:Nat} (h:∀ i,k≤i→i<ls.length→ls.getD i 0=0):cn (ls.take k)=cn ls:=by
 funext n
 unfold cn
 by_cases hn:n=0
 ·rw [if_pos hn,if_pos hn]
 ·rw [if_neg hn,if_neg hn]
  conv=>rhs;rw [←List.take_append_drop k ls,List.count_append]
  rw [count_zeros (l:=ls.drop k) (fun x hx=>?_) hn,Nat.add_zero]
  obtain ⟨i,hi,rfl⟩:=List.mem_iff_getElem.1 hx
  rw [List.length_drop] at hi
  rw [List.getElem_drop]
  have:=h (k+i) (by omega) (by omega)
  rwa [List.getD_eq_getElem?_getD,List.getElem?_eq_getElem (by omega)] at this
theorem ln_take {ls:List Nat} {k:Nat} (h:∀ i,k≤i→i<ls.length→ls.getD i 0=0) (y:Nat):ln (ls.take k) y=ln ls y:=by
 unfold ln
 by_cases hy:y<k
 ·simp only [List.getD_eq_getElem?_getD,List.getElem?_take_of_lt hy]
 ·rw [List.getD_eq_getElem?_getD,List.getElem?_eq_none (by rw [List.length_take];omega)]
  by_cases h2:y<ls.length
  ·exact (h y (by omega) h2).symm
  ·rw [List.getD_eq_getElem?_getD,List.getElem?_eq_none (by omega)]
theorem fp_nil' (n:Nat):fp [] n=0:=by
 induction n with
 | zero=>rfl
 | succ n ih=>rw [fp,ih];simp [cn]
theorem fp_cons {x:Nat} (l:List Nat) (n:Nat):fp (x::l) n=fp l n+if 0<x∧x<n then 1 else 0:=by
 induction n with
 | zero=>simp [fp]
 | succ n ih=>
  rw [fp,fp,ih]
  have e:cn (x::l) n=cn l n+if n≠0∧x=n then 1 else 0:=by
   unfold cn
   by_cases hn:n=0
   ·simp [hn]
   ·rw [if_neg hn,if_neg hn,List.count_cons]
    by_cases hx:x=n
    ·simp [hx,hn]
    ·simp [hx]
  rw [e]
  by_cases h1:0<x
  ·by_cases h2:x<n
   ·rw [if_pos ⟨h1,h2⟩,if_neg (by omega),if_pos (by omega)];omega
   ·by_cases h3:x=n
    ·rw [if_neg (by omega),if_pos (by omega),if_pos (by omega)];omega
    ·rw [if_neg (by omega),if_neg (by omega),if_neg (by omega)];omega
  ·rw [if_neg (by omega),if_neg (by omega),if_neg (by omega)];omega
theorem many_count {l:List Nat} (h:∀ x∈l,x≤15):many l=l.countP fun x=>decide (0<x):=by
 unfold many
 induction l with
 | nil=>exact fp_nil' 16
 | cons x l ih=>
  rw [fp_cons,ih fun z hz=>h z (List.mem_cons_of_mem _ hz),List.countP_cons]
  have:=h x (List.mem_cons_self ..)
  by_cases hx:0<x
  ·rw [if_pos (by omega),if_pos (decide_eq_true hx)]
  ·rw [if_neg (by omega),if_neg (by simpa using hx)]
def lexle (ns:List Nat) (a b:Nat):Bool:=decide (ns.getD a 0<ns.getD b 0∨(ns.getD a 0=ns.getD b 0∧a≤b))
def usF (ns:List Nat):List Nat:=(Y.usd ns ns.length).mergeSort (lexle ns)
theorem usF_lex (ns:List Nat):(usF ns).Pairwise fun a b=>lexle ns a b=true:=by
 refine List.pairwise_mergeSort ?_ ?_ _
 ·intro a b c h1 h2
  simp only [lexle,decide_eq_true_eq] at h1 h2 ⊢
  omega
 ·intro a b
  simp only [lexle,Bool.or_eq_true,decide_eq_true_eq]
  omega
theorem usF_used (ns:List Nat):Y.Used ns (usF ns):=by
 refine ⟨List.mergeSort_perm _ _,?_,(usF_lex ns).imp fun h=>by simpa only [lexle,decide_eq_true_eq] using h⟩
 unfold Y.Up Y.cts
 rw [List.pairwise_map]
 refine (usF_lex ns).imp ?_
 intro a b h
 simp only [lexle,decide_eq_true_eq] at h
 omega
theorem usF_one {ns us:List Nat} (hp:us.Perm (Y.usd ns ns.length)) (h:us.Pairwise fun a b=>lexle ns a b=true):us=usF ns:=by
 refine List.Perm.eq_of_pairwise (le:=fun a b=>lexle ns a b=true) ?_ h (usF_lex ns) (hp.trans (usF_used ns).perm.symm)
 intro a b _ _ h1 h2
 simp only [lexle,decide_eq_true_eq] at h1 h2
 omega
def bldF (ns:List Nat) (lim:Nat):List Nat:=Y.lens ns (usF ns) lim
def uses (ns:List Nat):Nat:=(Y.usd ns ns.length).length
theorem uses_is (ns:List Nat):(usF ns).length=uses ns:=(usF_used ns).perm.length_eq
theorem bld_len (ns:List Nat) (lim:Nat):(bldF ns lim).length=ns.length:=Y.lens_len _ _ _
section
variable {ns:List Nat} {lim:Nat}
theorem bld_le (hl:1≤lim) (h2:uses ns≤2^lim):∀ x∈bldF ns lim,x≤lim:=Y.lens_le (usF_used ns) hl (by rw [uses_is];exact h2)
theorem bld_zero (hl:1≤lim) (h2:uses ns≤2^lim) {s:Nat} (h:ns.getD s 0=0):ln (bldF ns lim) s=0:=by
 unfold ln
 by_cases hs:s<ns.length
 ·unfold bldF
  rw [Y.lens_at _ _ _ hs]
  exact (Y.LF_bounds (usF_used ns) hl (by rw [uses_is];exact h2) hs).1 h
 ·rw [List.getD_eq_getElem?_getD,List.getElem?_eq_none (by rw [bld_len];omega)];rfl
theorem bld_pos (hl:1≤lim) (h2:uses ns≤2^lim) {s:Nat} (h:0<ns.getD s 0):1≤ln (bldF ns lim) s:=by
 have hs:s<ns.length:=by
  rcases Nat.lt_or_ge s ns.length with e | e
  ·exact e
  ·rw [List.getD_eq_getElem?_getD,List.getElem?_eq_none e] at h;exact absurd h (by simp)
 unfold ln bldF
 rw [Y.lens_at _ _ _ hs]
 exact ((Y.LF_bounds (usF_used ns) hl (by rw [uses_is];exact h2) hs).2 h).1
theorem bld_room (hl:1≤lim∧lim≤15) (h2:uses ns≤2^lim):room (bldF ns lim)=if uses ns=0 then 0 else if uses ns=1 then 16384 else 32768:=by
 rw [←room_y]
 have:=Y.lens_room (usF_used ns) hl (by rw [uses_is];exact h2)
 rw [uses_is] at this
 exact this
theorem bld_ok (hn:ns.length≤320) (hl:1≤lim∧lim≤15) (h2:uses ns≤2^lim):Ok (bldF ns lim):=by
 refine ⟨by rw [bld_len];exact hn,fun x hx=>by have:=bld_le hl.1 h2 x hx;omega,?_⟩
 rw [bld_room hl h2]
 split
 ·omega
 ·split <;> omega
theorem bld_many (hl:1≤lim∧lim≤15) (h2:uses ns≤2^lim):many (bldF ns lim)=uses ns:=by
 rw [many_count fun x hx=>by have:=bld_le hl.1 h2 x hx;omega]
 have e:bldF ns lim=(List.range ns.length).map (ln (bldF ns lim)):=by
  apply List.ext_getElem
  ·simp [bld_len]
  ·intro i h1 h3
   simp only [List.getElem_map,List.getElem_range,ln,List.getD_eq_getElem?_getD,List.getElem?_eq_getElem h1]
   rfl
 rw [e,List.countP_map]
 unfold uses Y.usd
 rw [←List.countP_eq_length_filter]
 refine List.countP_congr fun s hs=>?_
 have hs:=List.mem_range.1 hs
 simp only [Function.comp,decide_eq_true_eq]
 constructor
 ·intro h
  rcases Nat.eq_zero_or_pos (ns.getD s 0) with e0 | e0
  ·have:=bld_zero hl.1 h2 e0;omega
  ·exact e0
 ·intro h;exact bld_pos hl.1 h2 h
end
theorem uses_le (ns:List Nat):uses ns≤ns.length:=Y.usd_len ns ns.length
theorem uses_two {ns:List Nat} {a b:Nat} (hab:a≠b) (ha:0<ns.getD a 0) (hb:0<ns.getD b 0):2≤uses ns:=by
 have hl:∀ s,0<ns.getD s 0→s∈Y.usd ns ns.length:=fun s h=>by
  refine Y.usd_mem.2 ⟨?_,h⟩
  rcases Nat.lt_or_ge s ns.length with e | e
  ·exact e
  ·rw [List.getD_eq_getElem?_getD,List.getElem?_eq_none e] at h;exact absurd h (by simp)
 have h1:=hl a ha
 have h2:=hl b hb
 unfold uses
 match hd:Y.usd ns ns.length with
 | []=>rw [hd] at h1;cases h1
 | [x]=>rw [hd] at h1 h2;exact absurd ((List.mem_singleton.1 h1).trans (List.mem_singleton.1 h2).symm) hab
 | x::y::r=>simp
theorem uses_one {ns:List Nat} {a:Nat} (ha:0<ns.getD a 0):1≤uses ns:=by
 have h1:a∈Y.usd ns ns.length:=by
  refine Y.usd_mem.2 ⟨?_,ha⟩
  rcases Nat.lt_or_ge a ns.length with e | e
  ·exact e
  ·rw [List.getD_eq_getElem?_getD,List.getElem?_eq_none e] at ha;exact absurd ha (by simp)
 exact List.length_pos_of_mem h1
theorem bld_whole {ns:List Nat} {lim:Nat} (hl:1≤lim∧lim≤15) (h2:uses ns≤2^lim) (h1:1≤uses ns):room (bldF ns lim)=32768∨(many (bldF ns lim)=1∧∃ s,ln (bldF ns lim) s=1):=by
 rw [bld_room hl h2,bld_many hl h2,if_neg (by omega)]
 by_cases e:uses ns=1
 ·right
  refine ⟨e,?_⟩
  have hu:(usF ns).length=1:=by rw [uses_is,e]
  obtain ⟨s,hs⟩:∃ s,usF ns=[s]:=by
   match hd:usF ns with
   | []=>rw [hd] at hu;cases hu
   | [x]=>exact ⟨x,rfl⟩
   | x::y::r=>rw [hd] at hu;simp at hu
  have hm:=(usF_used ns).mem.1 (show s∈usF ns by rw [hs];exact List.mem_singleton.2 rfl)
  refine ⟨s,?_⟩
  unfold ln bldF
  rw [Y.lens_at _ _ _ hm.1]
  unfold Y.LF Y.lenG
  rw [if_pos (by rw [hs];exact List.mem_singleton.2 rfl),Y.cts_len,hu,if_pos rfl]
 ·left
  rw [if_neg e]
def trz (few:Nat) (ls:List Nat):Nat→Nat
 | 0=>0
 | n+1=>if few<n+1∧ls.getD n 0=0 then trz few ls n else n+1
theorem trz_le (few:Nat) (ls:List Nat) (n:Nat):trz few ls n≤n:=by
 induction n with
 | zero=>exact Nat.le_refl _
 | succ n ih=>rw [trz];split <;> omega
theorem trz_ge (few:Nat) (ls:List Nat) (n:Nat) (h:few≤n):few≤trz few ls n:=by
 induction n with
 | zero=>exact h
 | succ n ih=>
  rw [trz]
  split
  ·exact ih (by omega)
  ·exact h
theorem trz_zero (few:Nat) (ls:List Nat) (n:Nat):∀ i,trz few ls n≤i→i<n→ls.getD i 0=0:=by
 induction n with
 | zero=>intro i _ h;omega
 | succ n ih=>
  intro i h1 h2
  rw [trz] at h1
  split at h1
  ·rename_i h
   by_cases e:i=n
   ·subst e;exact h.2
   ·exact ih i h1 (by omega)
  ·omega
end Go.Proofs.YtacpfpghokcdlaaGreatDoor
