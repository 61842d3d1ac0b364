/- Part 15. -/
import Derived.Test.YtacpfpghokcdlaaGreatDoorXB14
open Go.Proofs.Tryz
namespace Go.Proofs.YtacpfpghokcdlaaGreatDoor.Y
set_option maxRecDepth 100000
section
open Go.Lib renaming hid → J
open Go.RowKit
def z8 (zs:List Int) (a:Nat):Int:=
 if zs.getD a 0=0∧11≤rl zs a then 18 else if zs.getD a 0=0∧3≤rl zs a then 17
 else if zs.getD a 0≠0∧3≤rl zs a∧0<a∧zs.getD (a-1) 0=zs.getD a 0 then 16 else zs.getD a 0
def qi (zs:List Int) (a:Nat):Nat:=min (rl zs a) (spm (z8 zs a))
theorem zD (s:Int):spm s≤138:=by unfold spm;split <;> (try split) <;> (try split) <;> omega
theorem qe {x y:Int}{a b:Int}(h1:x=a) (h2:y=b):Ending.returned (.tuple #[.int .i64 x,.int .i64 y])=.returned (.tuple #[.int .i64 a,.int .i64 b]):=by rw [h1,h2]
set_option maxHeartbeats 8000000 in
theorem Uo (ao:Option Addr) (c a:Nat) (zs:List Int) (w:World) (h:IS w ao zs) (ha:a<zs.length) (hl:zs.length≤1000) :
  Calls prog 180 #[.slice ao zs.length c,.int .i64 a] w fun e w'=>e=.returned (.tuple #[.int .i64 (z8 zs a),.int .i64 (qi zs a:Nat)])∧∃ q,w'=w.drewN q:=by
 have HI:=J h;have HC:Hid (∀ n,Calls prog 192 #[.slice ao zs.length c,.int .i64 a] (w.drewN n) fun e w'=>e=.returned (.int .i64 (min 138 (rl zs a):Nat))∧∃ q,w'=(w.drewN n).drewN q):=
  J fun n=>Xr ao c a zs _ (h.drewN n) ha hl
 clear h;have HLY:=J (show qi zs a=min (rl zs a) (spm (z8 zs a)) from rfl);have HLS:=J (show z8 zs a=if zs.getD a 0=0∧11≤rl zs a then 18 else if zs.getD a 0=0∧3≤rl zs a then 17
 else if zs.getD a 0≠0∧3≤rl zs a∧0<a∧zs.getD (a-1) 0=zs.getD a 0 then 16 else zs.getD a 0 from rfl)
 obtain ⟨sy,hsy⟩:=exq (z8 zs a);obtain ⟨my,hmy⟩:=exq (qi zs a);rw [←hsy] at HLS HLY ⊢;rw [←hmy] at HLY ⊢;clear hsy hmy;obtain ⟨L,hL⟩:=exq (zs.length);have HLN:=J hL;rw [←hL] at ha hl HC ⊢;clear hL;have ha':(a:Int)<L:=by omega
 obtain ⟨r,hr⟩:=exq (rl zs a);rw [←hr] at HC HLS HLY;clear hr;obtain ⟨n,hn⟩:=exq (min 138 r);rw [←hn] at HC;have HN:=J hn;have hn3:n≤138:=by omega
 clear hn;obtain ⟨b1,o1,rfl,q1⟩:=HI.out.at (k:=a) (by rw [←HLN.out];exact ha);obtain ⟨x,hx⟩:=exq (zs.getD a 0);rw [←hx] at q1 HLS;clear hx;by_cases ca:a=0
 ·subst ca
  have HA:Hid (¬(0<0∧zs.getD (0-1) 0=x)):=J (fun k=>by omega);have HQ:=J True.intro;rw [Nat.add_zero] at q1;by_cases cx:x=0
  ·subst cx
   by_cases c11:11≤n
   ·have c11':(11:Int)≤n:=by omega
    have HSY:Hid (sy=18):=J (by have h:=HLS.out;have h2:=HN.out;rw [h,if_pos ⟨rfl,by omega⟩]);have HF:Hid ((18:Int)=sy∧((min n (spm 18):Nat):Int)=my):=J ⟨HSY.out.symm,by have h:=HLY.out;have h2:=HN.out;have h3:=zD 18;rw [HSY.out] at h;omega⟩;obtain ⟨sp,hsp⟩:=exq (spm 18);have HSP:=J hsp.symm;have hsp2:sp≤138:=by rw [hsp];exact zD _
    rw [←hsp] at HF;clear hsp;go_enter func180,ntmps180;go_wp2;go_quiet ((go_at_call 192;exact Calls.quiet_of (HC.out _)))
    clear q1;clear HC;have HG:Hid (∀ m,∃ q,(w.drewN nq).drewN m=w.drewN q):=J fun m=>⟨_,World.drewN_drewN _ _ _⟩
    generalize w.drewN nq=w2 at *;go_wp2_with (first
     | (go_at_call 181;(refine (zu _ _).mono ?_);rintro e w9 ⟨rfl,rfl⟩;rw [HSP.out]))
    all_goals go_ret2
    all_goals exact ⟨qe HF.out.1 (by have h9:=HF.out.2;omega),HG.out 0⟩
   ·have c11':decide ((11:Int)≤n)=false:=decide_eq_false (by omega)
    have c11'':(n:Int)<11:=by omega
    by_cases c3:3≤n
    ·have c3':(3:Int)≤n:=by omega
     have HSY:Hid (sy=17):=J (by have h:=HLS.out;have h2:=HN.out;rw [h,if_neg (by omega),if_pos ⟨rfl,by omega⟩]);have HF:Hid ((17:Int)=sy∧((min n (spm 17):Nat):Int)=my):=J ⟨HSY.out.symm,by have h:=HLY.out;have h2:=HN.out;have h3:=zD 17;rw [HSY.out] at h;omega⟩;obtain ⟨sp,hsp⟩:=exq (spm 17);have HSP:=J hsp.symm;have hsp2:sp≤138:=by rw [hsp];exact zD _
     rw [←hsp] at HF;clear hsp;go_enter func180,ntmps180;go_wp2;go_quiet ((go_at_call 192;exact Calls.quiet_of (HC.out _)))
     clear q1;clear HC;have HG:Hid (∀ m,∃ q,(w.drewN nq).drewN m=w.drewN q):=J fun m=>⟨_,World.drewN_drewN _ _ _⟩
     generalize w.drewN nq=w2 at *;go_wp2_with (first
      | (go_at_call 181;(refine (zu _ _).mono ?_);rintro e w9 ⟨rfl,rfl⟩;rw [HSP.out]))
     all_goals go_ret2
     all_goals exact ⟨qe HF.out.1 (by have h9:=HF.out.2;omega),HG.out 0⟩
    ·have c3':decide ((3:Int)≤n)=false:=decide_eq_false (by omega)
     have c3'':(n:Int)<3:=by omega
     have HSY:Hid (sy=0):=J (by have h:=HLS.out;have h2:=HN.out;rw [h,if_neg (by omega),if_neg (by omega),if_neg (by omega)]);have HF:Hid ((0:Int)=sy∧((min n (spm 0):Nat):Int)=my):=J ⟨HSY.out.symm,by have h:=HLY.out;have h2:=HN.out;have h3:=zD 0;rw [HSY.out] at h;omega⟩;obtain ⟨sp,hsp⟩:=exq (spm 0);have HSP:=J hsp.symm;have hsp2:sp≤138:=by rw [hsp];exact zD _
     rw [←hsp] at HF;clear hsp;go_enter func180,ntmps180;go_wp2;go_quiet ((go_at_call 192;exact Calls.quiet_of (HC.out _)))
     clear q1;clear HC;have HG:Hid (∀ m,∃ q,(w.drewN nq).drewN m=w.drewN q):=J fun m=>⟨_,World.drewN_drewN _ _ _⟩
     generalize w.drewN nq=w2 at *;go_wp2_with (first
      | (go_at_call 181;(refine (zu _ _).mono ?_);rintro e w9 ⟨rfl,rfl⟩;rw [HSP.out]))
     all_goals go_ret2
     all_goals exact ⟨qe HF.out.1 (by have h9:=HF.out.2;omega),HG.out 0⟩
  ·have cx':(x == 0)=false:=by simp [cx]
   have HX:=J cx;clear cx;by_cases c3:3≤n
   ·have c3':(3:Int)≤n:=by omega
    have HSY:Hid (sy=x):=J (by have h:=HLS.out;have h2:=HN.out;rw [h,if_neg (fun k=>HX.out k.1),if_neg (fun k=>HX.out k.1),if_neg (fun k=>HA.out k.2.2)]);have HF:Hid ((x:Int)=sy∧((min n (spm x):Nat):Int)=my):=J ⟨HSY.out.symm,by have h:=HLY.out;have h2:=HN.out;have h3:=zD x;rw [HSY.out] at h;omega⟩;obtain ⟨sp,hsp⟩:=exq (spm x);have HSP:=J hsp.symm;have hsp2:sp≤138:=by rw [hsp];exact zD _
    rw [←hsp] at HF;clear hsp;go_enter func180,ntmps180;go_wp2;go_quiet ((go_at_call 192;exact Calls.quiet_of (HC.out _)))
    clear q1;clear HC;have HG:Hid (∀ m,∃ q,(w.drewN nq).drewN m=w.drewN q):=J fun m=>⟨_,World.drewN_drewN _ _ _⟩
    generalize w.drewN nq=w2 at *;go_wp2_with (first
     | (go_at_call 181;(refine (zu _ _).mono ?_);rintro e w9 ⟨rfl,rfl⟩;rw [HSP.out]))
    all_goals go_ret2
    all_goals exact ⟨qe HF.out.1 (by have h9:=HF.out.2;omega),HG.out 0⟩
   ·have c3':decide ((3:Int)≤n)=false:=decide_eq_false (by omega)
    have c3'':(n:Int)<3:=by omega
    have HSY:Hid (sy=x):=J (by have h:=HLS.out;have h2:=HN.out;rw [h,if_neg (fun k=>HX.out k.1),if_neg (fun k=>HX.out k.1),if_neg (by omega)]);have HF:Hid ((x:Int)=sy∧((min n (spm x):Nat):Int)=my):=J ⟨HSY.out.symm,by have h:=HLY.out;have h2:=HN.out;have h3:=zD x;rw [HSY.out] at h;omega⟩;obtain ⟨sp,hsp⟩:=exq (spm x);have HSP:=J hsp.symm;have hsp2:sp≤138:=by rw [hsp];exact zD _
    rw [←hsp] at HF;clear hsp;go_enter func180,ntmps180;go_wp2;go_quiet ((go_at_call 192;exact Calls.quiet_of (HC.out _)))
    clear q1;clear HC;have HG:Hid (∀ m,∃ q,(w.drewN nq).drewN m=w.drewN q):=J fun m=>⟨_,World.drewN_drewN _ _ _⟩
    generalize w.drewN nq=w2 at *;go_wp2_with (first
     | (go_at_call 181;(refine (zu _ _).mono ?_);rintro e w9 ⟨rfl,rfl⟩;rw [HSP.out]))
    all_goals go_ret2
    all_goals exact ⟨qe HF.out.1 (by have h9:=HF.out.2;omega),HG.out 0⟩
 ·have ca':(0:Int)<a:=by omega
  obtain ⟨am,ham⟩:=exq (a-1);have e1:IntKind.i64.wrap ((a:Int)-1)=am:=by rw [IntKind.wrap_i64];omega
  have ham2:(am:Int)<L:=by omega
  obtain ⟨y,hy⟩:=exq (zs.getD (a-1) 0);have HQ:Hid (∀ q,(w.drewN q).cell? ⟨b1,o1+am,none⟩=some (.int .i64 y)):=J fun q=>by
   obtain ⟨b2,o2,e2,q2⟩:=(HI.out.drewN q).at (k:=am) (by rw [←HLN.out];omega);obtain ⟨rfl,rfl⟩:b1=b2∧o1=o2:=by simpa using e2
   rw [q2,hy,ham]
  have HAP:Hid (0<a):=J (by omega);rw [←hy] at HLS;clear hy ham ca;by_cases cy:y=x
  ·obtain rfl:x=y:=cy.symm
   have HA:Hid (0<a∧x=x):=J ⟨HAP.out,rfl⟩;by_cases cx:x=0
   ·subst cx
    by_cases c11:11≤n
    ·have c11':(11:Int)≤n:=by omega
     have HSY:Hid (sy=18):=J (by have h:=HLS.out;have h2:=HN.out;rw [h,if_pos ⟨rfl,by omega⟩]);have HF:Hid ((18:Int)=sy∧((min n (spm 18):Nat):Int)=my):=J ⟨HSY.out.symm,by have h:=HLY.out;have h2:=HN.out;have h3:=zD 18;rw [HSY.out] at h;omega⟩;obtain ⟨sp,hsp⟩:=exq (spm 18);have HSP:=J hsp.symm;have hsp2:sp≤138:=by rw [hsp];exact zD _
     rw [←hsp] at HF;clear hsp;go_enter func180,ntmps180;go_wp2;go_quiet ((go_at_call 192;exact Calls.quiet_of (HC.out _)))
     clear q1;have q2:=HQ.out nq;clear HC;have HG:Hid (∀ m,∃ q,(w.drewN nq).drewN m=w.drewN q):=J fun m=>⟨_,World.drewN_drewN _ _ _⟩
     generalize w.drewN nq=w2 at *;go_wp2_with (first
      | (go_at_call 181;(refine (zu _ _).mono ?_);rintro e w9 ⟨rfl,rfl⟩;rw [HSP.out]))
     all_goals go_ret2
     all_goals exact ⟨qe HF.out.1 (by have h9:=HF.out.2;omega),HG.out 0⟩
    ·have c11':decide ((11:Int)≤n)=false:=decide_eq_false (by omega)
     have c11'':(n:Int)<11:=by omega
     by_cases c3:3≤n
     ·have c3':(3:Int)≤n:=by omega
      have HSY:Hid (sy=17):=J (by have h:=HLS.out;have h2:=HN.out;rw [h,if_neg (by omega),if_pos ⟨rfl,by omega⟩]);have HF:Hid ((17:Int)=sy∧((min n (spm 17):Nat):Int)=my):=J ⟨HSY.out.symm,by have h:=HLY.out;have h2:=HN.out;have h3:=zD 17;rw [HSY.out] at h;omega⟩;obtain ⟨sp,hsp⟩:=exq (spm 17);have HSP:=J hsp.symm;have hsp2:sp≤138:=by rw [hsp];exact zD _
      rw [←hsp] at HF;clear hsp;go_enter func180,ntmps180;go_wp2;go_quiet ((go_at_call 192;exact Calls.quiet_of (HC.out _)))
      clear q1;have q2:=HQ.out nq;clear HC;have HG:Hid (∀ m,∃ q,(w.drewN nq).drewN m=w.drewN q):=J fun m=>⟨_,World.drewN_drewN _ _ _⟩
      generalize w.drewN nq=w2 at *;go_wp2_with (first
       | (go_at_call 181;(refine (zu _ _).mono ?_);rintro e w9 ⟨rfl,rfl⟩;rw [HSP.out]))
      all_goals go_ret2
      all_goals exact ⟨qe HF.out.1 (by have h9:=HF.out.2;omega),HG.out 0⟩
     ·have c3':decide ((3:Int)≤n)=false:=decide_eq_false (by omega)
      have c3'':(n:Int)<3:=by omega
      have HSY:Hid (sy=0):=J (by have h:=HLS.out;have h2:=HN.out;rw [h,if_neg (by omega),if_neg (by omega),if_neg (by omega)]);have HF:Hid ((0:Int)=sy∧((min n (spm 0):Nat):Int)=my):=J ⟨HSY.out.symm,by have h:=HLY.out;have h2:=HN.out;have h3:=zD 0;rw [HSY.out] at h;omega⟩;obtain ⟨sp,hsp⟩:=exq (spm 0);have HSP:=J hsp.symm;have hsp2:sp≤138:=by rw [hsp];exact zD _
      rw [←hsp] at HF;clear hsp;go_enter func180,ntmps180;go_wp2;go_quiet ((go_at_call 192;exact Calls.quiet_of (HC.out _)))
      clear q1;have q2:=HQ.out nq;clear HC;have HG:Hid (∀ m,∃ q,(w.drewN nq).drewN m=w.drewN q):=J fun m=>⟨_,World.drewN_drewN _ _ _⟩
      generalize w.drewN nq=w2 at *;go_wp2_with (first
       | (go_at_call 181;(refine (zu _ _).mono ?_);rintro e w9 ⟨rfl,rfl⟩;rw [HSP.out]))
      all_goals go_ret2
      all_goals exact ⟨qe HF.out.1 (by have h9:=HF.out.2;omega),HG.out 0⟩
   ·have cx':(x == 0)=false:=by simp [cx]
    have HX:=J cx;clear cx;by_cases c3:3≤n
    ·have c3':(3:Int)≤n:=by omega
     have HSY:Hid (sy=16):=J (by have h:=HLS.out;have h2:=HN.out;rw [h,if_neg (fun k=>HX.out k.1),if_neg (fun k=>HX.out k.1),if_pos ⟨HX.out,by omega,HA.out.1,HA.out.2⟩]);have HF:Hid ((16:Int)=sy∧((min n (spm 16):Nat):Int)=my):=J ⟨HSY.out.symm,by have h:=HLY.out;have h2:=HN.out;have h3:=zD 16;rw [HSY.out] at h;omega⟩;obtain ⟨sp,hsp⟩:=exq (spm 16);have HSP:=J hsp.symm;have hsp2:sp≤138:=by rw [hsp];exact zD _
     rw [←hsp] at HF;clear hsp;go_enter func180,ntmps180;go_wp2;go_quiet ((go_at_call 192;exact Calls.quiet_of (HC.out _)))
     clear q1;have q2:=HQ.out nq;clear HC;have HG:Hid (∀ m,∃ q,(w.drewN nq).drewN m=w.drewN q):=J fun m=>⟨_,World.drewN_drewN _ _ _⟩
     generalize w.drewN nq=w2 at *;go_wp2_with (first
      | (go_at_call 181;(refine (zu _ _).mono ?_);rintro e w9 ⟨rfl,rfl⟩;rw [HSP.out]))
     all_goals go_ret2
     all_goals exact ⟨qe HF.out.1 (by have h9:=HF.out.2;omega),HG.out 0⟩
    ·have c3':decide ((3:Int)≤n)=false:=decide_eq_false (by omega)
     have c3'':(n:Int)<3:=by omega
     have HSY:Hid (sy=x):=J (by have h:=HLS.out;have h2:=HN.out;rw [h,if_neg (fun k=>HX.out k.1),if_neg (fun k=>HX.out k.1),if_neg (by omega)]);have HF:Hid ((x:Int)=sy∧((min n (spm x):Nat):Int)=my):=J ⟨HSY.out.symm,by have h:=HLY.out;have h2:=HN.out;have h3:=zD x;rw [HSY.out] at h;omega⟩;obtain ⟨sp,hsp⟩:=exq (spm x);have HSP:=J hsp.symm;have hsp2:sp≤138:=by rw [hsp];exact zD _
     rw [←hsp] at HF;clear hsp;go_enter func180,ntmps180;go_wp2;go_quiet ((go_at_call 192;exact Calls.quiet_of (HC.out _)))
     clear q1;have q2:=HQ.out nq;clear HC;have HG:Hid (∀ m,∃ q,(w.drewN nq).drewN m=w.drewN q):=J fun m=>⟨_,World.drewN_drewN _ _ _⟩
     generalize w.drewN nq=w2 at *;go_wp2_with (first
      | (go_at_call 181;(refine (zu _ _).mono ?_);rintro e w9 ⟨rfl,rfl⟩;rw [HSP.out]))
     all_goals go_ret2
     all_goals exact ⟨qe HF.out.1 (by have h9:=HF.out.2;omega),HG.out 0⟩
  ·have cy':(y == x)=false:=by simp [cy]
   have HA:Hid (¬(0<a∧y=x)):=J (fun k=>cy k.2);clear cy;by_cases cx:x=0
   ·subst cx
    by_cases c11:11≤n
    ·have c11':(11:Int)≤n:=by omega
     have HSY:Hid (sy=18):=J (by have h:=HLS.out;have h2:=HN.out;rw [h,if_pos ⟨rfl,by omega⟩]);have HF:Hid ((18:Int)=sy∧((min n (spm 18):Nat):Int)=my):=J ⟨HSY.out.symm,by have h:=HLY.out;have h2:=HN.out;have h3:=zD 18;rw [HSY.out] at h;omega⟩;obtain ⟨sp,hsp⟩:=exq (spm 18);have HSP:=J hsp.symm;have hsp2:sp≤138:=by rw [hsp];exact zD _
     rw [←hsp] at HF;clear hsp;go_enter func180,ntmps180;go_wp2;go_quiet ((go_at_call 192;exact Calls.quiet_of (HC.out _)))
     clear q1;have q2:=HQ.out nq;clear HC;have HG:Hid (∀ m,∃ q,(w.drewN nq).drewN m=w.drewN q):=J fun m=>⟨_,World.drewN_drewN _ _ _⟩
     generalize w.drewN nq=w2 at *;go_wp2_with (first
      | (go_at_call 181;(refine (zu _ _).mono ?_);rintro e w9 ⟨rfl,rfl⟩;rw [HSP.out]))
     all_goals go_ret2
     all_goals exact ⟨qe HF.out.1 (by have h9:=HF.out.2;omega),HG.out 0⟩
    ·have c11':decide ((11:Int)≤n)=false:=decide_eq_false (by omega)
     have c11'':(n:Int)<11:=by omega
     by_cases c3:3≤n
     ·have c3':(3:Int)≤n:=by omega
      have HSY:Hid (sy=17):=J (by have h:=HLS.out;have h2:=HN.out;rw [h,if_neg (by omega),if_pos ⟨rfl,by omega⟩]);have HF:Hid ((17:Int)=sy∧((min n (spm 17):Nat):Int)=my):=J ⟨HSY.out.symm,by have h:=HLY.out;have h2:=HN.out;have h3:=zD 17;rw [HSY.out] at h;omega⟩;obtain ⟨sp,hsp⟩:=exq (spm 17);have HSP:=J hsp.symm;have hsp2:sp≤138:=by rw [hsp];exact zD _
      rw [←hsp] at HF;clear hsp;go_enter func180,ntmps180;go_wp2;go_quiet ((go_at_call 192;exact Calls.quiet_of (HC.out _)))
      clear q1;have q2:=HQ.out nq;clear HC;have HG:Hid (∀ m,∃ q,(w.drewN nq).drewN m=w.drewN q):=J fun m=>⟨_,World.drewN_drewN _ _ _⟩
      generalize w.drewN nq=w2 at *;go_wp2_with (first
       | (go_at_call 181;(refine (zu _ _).mono ?_);rintro e w9 ⟨rfl,rfl⟩;rw [HSP.out]))
      all_goals go_ret2
      all_goals exact ⟨qe HF.out.1 (by have h9:=HF.out.2;omega),HG.out 0⟩
     ·have c3':decide ((3:Int)≤n)=false:=decide_eq_false (by omega)
      have c3'':(n:Int)<3:=by omega
      have HSY:Hid (sy=0):=J (by have h:=HLS.out;have h2:=HN.out;rw [h,if_neg (by omega),if_neg (by omega),if_neg (by omega)]);have HF:Hid ((0:Int)=sy∧((min n (spm 0):Nat):Int)=my):=J ⟨HSY.out.symm,by have h:=HLY.out;have h2:=HN.out;have h3:=zD 0;rw [HSY.out] at h;omega⟩;obtain ⟨sp,hsp⟩:=exq (spm 0);have HSP:=J hsp.symm;have hsp2:sp≤138:=by rw [hsp];exact zD _
      rw [←hsp] at HF;clear hsp;go_enter func180,ntmps180;go_wp2;go_quiet ((go_at_call 192;exact Calls.quiet_of (HC.out _)))
      clear q1;have q2:=HQ.out nq;clear HC;have HG:Hid (∀ m,∃ q,(w.drewN nq).drewN m=w.drewN q):=J fun m=>⟨_,World.drewN_drewN _ _ _⟩
      generalize w.drewN nq=w2 at *;go_wp2_with (first
       | (go_at_call 181;(refine (zu _ _).mono ?_);rintro e w9 ⟨rfl,rfl⟩;rw [HSP.out]))
      all_goals go_ret2
      all_goals exact ⟨qe HF.out.1 (by have h9:=HF.out.2;omega),HG.out 0⟩
   ·have cx':(x == 0)=false:=by simp [cx]
    have HX:=J cx;clear cx;by_cases c3:3≤n
    ·have c3':(3:Int)≤n:=by omega
     have HSY:Hid (sy=x):=J (by have h:=HLS.out;have h2:=HN.out;rw [h,if_neg (fun k=>HX.out k.1),if_neg (fun k=>HX.out k.1),if_neg (fun k=>HA.out k.2.2)]);have HF:Hid ((x:Int)=sy∧((min n (spm x):Nat):Int)=my):=J ⟨HSY.out.symm,by have h:=HLY.out;have h2:=HN.out;have h3:=zD x;rw [HSY.out] at h;omega⟩;obtain ⟨sp,hsp⟩:=exq (spm x);have HSP:=J hsp.symm;have hsp2:sp≤138:=by rw [hsp];exact zD _
     rw [←hsp] at HF;clear hsp;go_enter func180,ntmps180;go_wp2;go_quiet ((go_at_call 192;exact Calls.quiet_of (HC.out _)))
     clear q1;have q2:=HQ.out nq;clear HC;have HG:Hid (∀ m,∃ q,(w.drewN nq).drewN m=w.drewN q):=J fun m=>⟨_,World.drewN_drewN _ _ _⟩
     generalize w.drewN nq=w2 at *;go_wp2_with (first
      | (go_at_call 181;(refine (zu _ _).mono ?_);rintro e w9 ⟨rfl,rfl⟩;rw [HSP.out]))
     all_goals go_ret2
     all_goals exact ⟨qe HF.out.1 (by have h9:=HF.out.2;omega),HG.out 0⟩
    ·have c3':decide ((3:Int)≤n)=false:=decide_eq_false (by omega)
     have c3'':(n:Int)<3:=by omega
     have HSY:Hid (sy=x):=J (by have h:=HLS.out;have h2:=HN.out;rw [h,if_neg (fun k=>HX.out k.1),if_neg (fun k=>HX.out k.1),if_neg (by omega)]);have HF:Hid ((x:Int)=sy∧((min n (spm x):Nat):Int)=my):=J ⟨HSY.out.symm,by have h:=HLY.out;have h2:=HN.out;have h3:=zD x;rw [HSY.out] at h;omega⟩;obtain ⟨sp,hsp⟩:=exq (spm x);have HSP:=J hsp.symm;have hsp2:sp≤138:=by rw [hsp];exact zD _
     rw [←hsp] at HF;clear hsp;go_enter func180,ntmps180;go_wp2;go_quiet ((go_at_call 192;exact Calls.quiet_of (HC.out _)))
     clear q1;have q2:=HQ.out nq;clear HC;have HG:Hid (∀ m,∃ q,(w.drewN nq).drewN m=w.drewN q):=J fun m=>⟨_,World.drewN_drewN _ _ _⟩
     generalize w.drewN nq=w2 at *;go_wp2_with (first
      | (go_at_call 181;(refine (zu _ _).mono ?_);rintro e w9 ⟨rfl,rfl⟩;rw [HSP.out]))
     all_goals go_ret2
     all_goals exact ⟨qe HF.out.1 (by have h9:=HF.out.2;omega),HG.out 0⟩
def icl (r:List (Int × Int)):List Value:=r.flatMap fun x=>[.int .i64 x.1,.int .i64 x.2]
theorem jw (x:Int × Int) (r:List (Int × Int)):icl (x::r)=.int .i64 x.1 :: .int .i64 x.2::icl r:=rfl
theorem Xp (a b:List (Int × Int)):icl a++icl b=icl (a++b):=by simp [icl]
theorem QP (r:List (Int × Int)):(icl r).length=r.length*2:=by
 induction r with
 | nil=>rfl
 | cons x r ih=>rw [jw,List.length_cons,List.length_cons,ih,List.length_cons];omega
theorem zi2 (r:List (Int × Int)):∀ u∈icl r,u.oneCell'=true:=by
 induction r with
 | nil=>intro u hu;cases hu
 | cons x r ih=>
  intro u hu;rw [jw,List.mem_cons,List.mem_cons] at hu;rcases hu with rfl | rfl | hu
  ·rfl
  ·rfl
  ·exact ih u hu
def itm (r:List (Int × Int)) (k:Nat):Int × Int:=r.getD k (0,0)
theorem zal (r:List (Int × Int)) (k:Nat) (h:k<r.length):(icl r)[k*2]? = some (.int .i64 (itm r k).1)∧(icl r)[k*2+1]? = some (.int .i64 (itm r k).2):=by
 induction r generalizing k with
 | nil=>simp at h
 | cons x r ih=>
  cases k with
  | zero=>exact ⟨rfl,rfl⟩
  | succ k=>
   have:=ih k (by simpa using h);rw [jw,show (k+1)*2=k*2+1+1 by omega,List.getElem?_cons_succ,List.getElem?_cons_succ,List.getElem?_cons_succ,List.getElem?_cons_succ];exact this
def TS (w:World) (ao:Option Addr) (r:List (Int × Int)):Prop:=r=[]∨∃ b off,ao=some ⟨b,off,none⟩∧w.rangeAt b off (icl r)
theorem TS.on {w w':World}{ao:Option Addr}{r:List (Int × Int)}(h:TS w ao r) (hb:Below w.heap.size w w'):TS w' ao r:=by
 rcases h with h | ⟨b,off,rfl,hc⟩
 ·exact .inl h
 ·exact .inr ⟨b,off,rfl,fun j v hv=>by
   have:=hc j v hv;exact (hb.cell (World.block_lt_of_cell? w _ this)).trans this⟩
theorem TS.at {w:World}{ao:Option Addr}{r:List (Int × Int)}(h:TS w ao r){k:Nat}(hk:k<r.length) :
  ∃ b off,ao=some ⟨b,off,none⟩∧w.cell? ⟨b,off+k*2,none⟩=some (.int .i64 (itm r k).1)∧w.cell? ⟨b,off+k*2+1,none⟩=some (.int .i64 (itm r k).2):=by
 rcases h with rfl | ⟨b,off,rfl,hc⟩
 ·simp at hk
 ·have:=zal r k hk
  exact ⟨b,off,rfl,hc _ _ this.1,by have:=hc _ _ this.2;rwa [←Nat.add_assoc] at this⟩
theorem uH {w:World}{base e:Nat}{ao:Option Addr}{c n:Nat}{r:List (Int × Int)}(h:w.ownsRow base e 2 (.slice ao n c) n (icl r)) (hn:r.length=n):TS w ao r:=by
 subst hn;rcases h.2 with ⟨e,h0⟩ | ⟨g,cap,cur,e,hbg,hh,hnc,hcm,hcs,htake⟩
 ·exact .inl (List.eq_nil_of_length_eq_zero h0)
 ·simp only [Value.slice.injEq] at e
  obtain ⟨rfl,_,rfl⟩:=e;refine .inr ⟨g,0,rfl,fun j v hv=>?_⟩;have hj:j<r.length*2:=by
   have:=(List.getElem?_eq_some_iff.1 hv).1;rwa [QP] at this
  rw [Nat.zero_add,World.ownsRow.cellAt h j (by omega),hv]
theorem zky {w:World}{base e:Nat}{ao:Option Addr}{c n:Nat}{r:List (Int × Int)}(h:w.ownsRow base e 2 (.slice ao n c) n (icl r)):∀ b off,ao=some ⟨b,off,none⟩→base≤b:=by
 intro b off ha;rcases h.2 with ⟨e,h0⟩ | ⟨g,cap,cur,e,hbg,hh,hnc,hcm,hcs,htake⟩
 ·simp only [Value.slice.injEq] at e
  obtain ⟨rfl,_,rfl⟩:=e;cases ha
 ·simp only [Value.slice.injEq] at e
  obtain ⟨rfl,_,rfl⟩:=e;cases ha;exact hbg
theorem zmG:AT 143 187 (.agg #[.int .i64 0,.int .i64 0]) 2 16:=⟨by kernel_rfl,by kernel_rfl,rfl,by omega⟩
theorem zaN (w:World) (B:Nat) (hB:w.heap.size=B) (e:TypeId) (x:Int × Int):zI (w.alloc (.cells #[.int .i64 x.1,.int .i64 x.2] e)) (.slice (some ⟨B,0,none⟩) 1 1) 1 (icl [x]):=by
 subst hB;refine .inr ⟨_,1,rfl,fun j u hu=>?_⟩;rw [Addr.add_lit,Nat.zero_add,(Blk.made w e _).cell];have:j<2:=by
  have:=(List.getElem?_eq_some_iff.1 hu).1;simpa [icl] using this
 rcases (by omega:j=0∨j=1) with rfl | rfl
 ·simpa [icl] using hu
 ·simpa [icl] using hu
structure Tr (w:World) (e:Nat) (P:List (Int × Int)) (v:Value) (wr:World):Prop where
 own:wr.ownsRow w.heap.size e 2 v P.length (icl P)
 below:Below w.heap.size w wr
theorem Tr.put {w wr w1:World}{e:Nat}{P R:List (Int × Int)}{v v':Value}{n:Nat}{o:Obj}(h:Tr w e P v wr) (hA:Apg (wr.alloc o) w.heap.size e 2 v n (icl P++icl R) v' w1) (hn:n=P.length+R.length):Tr w e (P++R) v' w1:=by
 subst hn;refine ⟨?_,h.below.trans (hA.alloc.below h.own h.below.size)⟩;rw [List.length_append,←Xp];exact hA.own
theorem Tr.drewN {w wr:World}{e:Nat}{P:List (Int × Int)}{v:Value}(h:Tr w e P v wr) (q:Nat):Tr w e P v (wr.drewN q):=
 ⟨ownsRow_below h.own (below_drewN (Below.refl _ _) q),below_drewN h.below q⟩
def pit (zs:List Int) (a:Nat):Int × Int:=(z8 zs a,((qi zs a-spl (z8 zs a):Nat):Int))
def pk (zs:List Int):Nat→Nat→List (Int × Int)
 | 0,_=>[]
 | f+1,a=>if a<zs.length then pit zs a::pk zs f (a+qi zs a) else []
def pkl (zs:List Int):List (Int × Int):=pk zs zs.length 0
theorem zjD (zs:List Int) (a:Nat):(z8 zs a=18∧11≤rl zs a)∨(z8 zs a=17∧3≤rl zs a)∨(z8 zs a=16∧3≤rl zs a)∨z8 zs a=zs.getD a 0:=by
 unfold z8;split
 ·next h=>exact .inl ⟨rfl,h.2⟩
 ·split
  ·next h=>exact .inr (.inl ⟨rfl,h.2⟩)
  ·split
   ·next h=>exact .inr (.inr (.inl ⟨rfl,h.2.1⟩))
   ·exact .inr (.inr (.inr rfl))
theorem kT {x:Int}(h:x≤15):spl x=1∧spm x=1:=by
 unfold spl spm;constructor
 ·rw [if_neg (by omega),if_neg (by omega),if_neg (by omega)]
 ·rw [if_neg (by omega),if_neg (by omega),if_neg (by omega)]
theorem kf {zs:List Int}{a:Nat}(ha:a<zs.length) (hb:zs.getD a 0≤15):spl (z8 zs a)≤qi zs a∧1≤spl (z8 zs a)∧qi zs a≤138∧a+qi zs a≤zs.length:=by
 have h1:=zgf ha;have h2:=zfK zs a (by omega);have h3:=zD (z8 zs a);unfold qi;rcases zjD zs a with ⟨h,k⟩ | ⟨h,k⟩ | ⟨h,k⟩ | h
 ·rw [h] at h3 ⊢;simp [spl,spm];omega
 ·rw [h] at h3 ⊢;simp [spl,spm];omega
 ·rw [h] at h3 ⊢;simp [spl,spm];omega
 ·rw [h] at h3 ⊢;rw [(kT hb).1,(kT hb).2];omega
theorem zid {zs:List Int}(hz:∀ k,k<zs.length→zs.getD k 0≤15) (f:Nat):∀ g a,zs.length≤a+f→zs.length≤a+g→pk zs f a=pk zs g a:=by
 induction f with
 | zero=>
  intro g a h1 h2;cases g with
  | zero=>rfl
  | succ g=>rw [pk,pk,if_neg (by omega)]
 | succ f ih=>
  intro g a h1 h2;by_cases ha:a<zs.length
  ·have:=kf ha (hz a ha)
   cases g with
   | zero=>omega
   | succ g=>rw [pk,pk,if_pos ha,if_pos ha,ih g _ (by omega) (by omega)]
  ·cases g with
   | zero=>rw [pk,pk,if_neg ha]
   | succ g=>rw [pk,pk,if_neg ha,if_neg ha]
theorem vA {zs:List Int}(hz:∀ k,k<zs.length→zs.getD k 0≤15){a:Nat}(ha:a<zs.length):pk zs (zs.length-a) a=pit zs a::pk zs (zs.length-(a+qi zs a)) (a+qi zs a):=by
 have h:=kf ha (hz a ha);obtain ⟨f,hf⟩:∃ f,zs.length-a=f+1:=⟨zs.length-a-1,by omega⟩;rw [hf,pk,if_pos ha,zid hz f (zs.length-(a+qi zs a)) _ (by omega) (by omega)]
theorem zbf {zs:List Int}{a:Nat}(ha:zs.length≤a) (f:Nat):pk zs f a=[]:=by
 cases f with
 | zero=>rfl
 | succ f=>rw [pk,if_neg (by omega)]
def zfn (zs:List Int) (w:World) (e:Ending) (w':World):Prop:=∃ ao c,e=.returned (.slice ao (pkl zs).length c)∧TS w' ao (pkl zs)∧Below w.heap.size w w'∧∀ b off,ao=some ⟨b,off,none⟩→w.heap.size≤b
set_option maxHeartbeats 8000000 in
theorem zdv (ao:Option Addr) (c:Nat) (zs:List Int) (w:World) (h:IS w ao zs) (hl:zs.length≤1000) (hb:xW 0 15 zs=false) :
  Calls prog 162 #[.slice ao zs.length c] w (zfn zs w):=by
 have HI:=J h;have HBD:=J hb;have HZ:Hid (∀ k,k<zs.length→zs.getD k 0≤15):=J fun k hk=>by
  have h1:=List.any_eq_false.1 hb (zs.getD k 0) (by rw [List.getD_eq_getElem?_getD,List.getElem?_eq_getElem hk];exact List.getElem_mem hk);have h2:¬Bad 0 15 (zs.getD k 0):=fun e=>h1 (decide_eq_true e)
  unfold Bad at h2;omega
 clear h hb;go_enter func162,ntmps162;go_wp2_with (first
  | (go_at_call 174;refine (zm _ _ _).mono ?_;rintro e w1 ⟨p,q,rfl,hk,hb,hp,hq⟩;have HK:=J hk;have HB:=J hb;clear hk hb;unfold zW)
  | (go_at_call 175;refine (qv ao c p q 0 15 zs w1 (by omega) (HI.out.below HB.out) HK.out).mono ?_;rintro e w2 ⟨rfl,rfl⟩;rw [HBD.out]))
 have H0:Hid (Tr w 187 [] (.slice none 0 0) w2):=J ⟨World.ownsRow_nil _ _ _ _,HB.out⟩;clear HK HB HBD;go_loopw [3,4] (fun s3 s4 wr=>∃ (a:Nat) (P:List (Int × Int)) (a3:Option Addr) (c3:Nat),s3=.slice a3 P.length c3∧s4=.int .i64 a∧a≤zs.length∧P.length≤a∧P++pk zs (zs.length-a) a=pkl zs∧Tr w 187 P (.slice a3 P.length c3) wr) (fun _ s4 _=>zs.length-(intOf s4).toNat)
 case atStart=>exact ⟨0,[],none,0,rfl,rfl,Nat.zero_le _,Nat.le_refl _,rfl,H0.out⟩
 case round=>
  obtain ⟨a,P,a3,c3,rfl,rfl,hal,hpa,hq,hT⟩:=hrel;have HQ:=J hq;have HT:=J hT;clear hq hT H0;by_cases hlt:a<zs.length
  ·have hlt':(a:Int)<zs.length:=by omega
   obtain ⟨hm1,hm2,hm3,hm4⟩:=kf hlt (HZ.out a hlt);obtain ⟨sy,hsy⟩:=exq (z8 zs a);obtain ⟨m,hm⟩:=exq (qi zs a);obtain ⟨l,hll⟩:=exq (spl (z8 zs a));obtain ⟨d,hd⟩:=exq (m-l);have HS:=J (And.intro hsy (And.intro hm (And.intro hll hd)));rw [←hll] at hm1 hm2;rw [←hm] at hm1 hm3 hm4;have e1:IntKind.i64.wrap ((m:Int)-l)=d:=by rw [IntKind.wrap_i64];omega
   have e2:IntKind.i64.wrap ((a:Int)+m)=((a+m:Nat):Int):=by rw [IntKind.wrap_i64];omega
   have HP:Hid (pit zs a=(sy,(d:Int))):=J (by unfold pit;rw [hd,hm,hll,hsy]);clear hsy hm hll hd;go_wp2_with (first
    | (go_at_call 180;refine (Uo ao c a zs wr (HI.out.below HT.out.below) hlt hl).mono ?_;rintro e w3 ⟨rfl,q,rfl⟩;rw [←HS.out.1,←HS.out.2.1];have HT2:=J (HT.out.drewN q);generalize wr.drewN q=w4 at HT2 ⊢)
    | (go_at_call 181;refine (zu _ _).mono ?_;rintro e w5 ⟨rfl,rfl⟩;rw [show spl sy=l by rw [HS.out.2.2.1,←HS.out.1]])
    | (refine ze zmG rfl (.tmp 27) (.tmp 33) rfl w.heap.size (.slice a3 P.length c3) (.slice (some ⟨w5.heap.size,0,none⟩) 1 1) P.length 1 (icl P) (icl [(sy,(d:Int))]) rfl rfl (World.ownsRow.alloc (w:=w5) HT2.out.own _) (zaN w5 _ rfl 187 (sy,(d:Int))) rfl (zi2 _) (by simp;have:=HT2.out.below.size;omega) (by omega) (by omega) ?_;intro ao2 cc2 w6 hA;have H3:=J (HT2.out.put hA rfl);clear hA))
   go_roundw;case rel=>
    refine ⟨a+m,P++[(sy,(d:Int))],ao2,cc2,by rw [List.length_append];rfl,by go_num,hm4,by rw [List.length_append];simp;omega,?_,by rw [List.length_append];exact H3.out⟩;have h1:=HQ.out;rw [vA HZ.out hlt,HP.out,←HS.out.2.1] at h1;rw [List.append_assoc];exact h1
   case measure=>simp [intOf];omega
  ·have hge:a=zs.length:=by omega
   subst hge;go_wp2;go_ret;have hq2:=HQ.out;rw [zbf (Nat.le_refl _),List.append_nil] at hq2;unfold zfn;rw [←hq2];exact ⟨a3,c3,rfl,uH HT.out.own rfl,HT.out.below,zky HT.out.own⟩
end
section
open Go.RowKit
def tv (s:Int) (ts:List Int):Int:=if s=16 then ts.getD (ts.length-1) 0 else if s=17 then 0 else if s=18 then 0 else s
def Wi (s x:Int) (n:Nat):Prop:=Bad 0 18 s∨Bad 0 ((spm s:Int)-spl s) x∨(s=16∧n=0)∨(320-n:Int)<spl s+x
instance (s x:Int) (n:Nat):Decidable (Wi s x n):=inferInstanceAs (Decidable (_∨_))
theorem JG (s:Int):1≤spl s∧spl s≤11∧spl s≤spm s∧spm s≤138:=by
 unfold spl spm;by_cases h1:s=16
 ·simp [h1]
 ·by_cases h2:s=17
  ·simp [h2]
  ·by_cases h3:s=18
   ·simp [h3]
   ·simp [h1,h2,h3]
def un:List (Int × Int)→List Int→Option (List Int)
 | [],ts=>some ts
 | (s,x)::r,ts=>if Wi s x ts.length then none else un r (ts++List.replicate ((spl s:Int)+x).toNat (tv s ts))
theorem Kq (zs:List Int) (a:Nat):(z8 zs a=18∧zs.getD a 0=0)∨(z8 zs a=17∧zs.getD a 0=0)∨(z8 zs a=16∧0<a∧zs.getD (a-1) 0=zs.getD a 0)∨z8 zs a=zs.getD a 0:=by
 unfold z8;split
 ·next h=>exact .inl ⟨rfl,h.1⟩
 ·split
  ·next h=>exact .inr (.inl ⟨rfl,h.1⟩)
  ·split
   ·next h=>exact .inr (.inr (.inl ⟨rfl,h.2.2⟩))
   ·exact .inr (.inr (.inr rfl))
theorem zh3 {zs:List Int}{a:Nat}(ha:a<zs.length) (hb:zs.getD a 0≤15):tv (z8 zs a) (zs.take a)=zs.getD a 0:=by
 rcases Kq zs a with ⟨h,k⟩ | ⟨h,k⟩ | ⟨h,k1,k2⟩ | h
 ·rw [h,k];rfl
 ·rw [h,k];rfl
 ·rw [h,tv,if_pos rfl,List.length_take,←k2,Nat.min_eq_left (by omega)]
  simp only [List.getD];rw [List.getElem?_take_of_lt (by omega)]
 ·rw [h,tv,if_neg (by omega),if_neg (by omega),if_neg (by omega)]
theorem ze2 {zs:List Int}{a m:Nat}(hm:m≤rl zs a) (ha:a≤zs.length):zs.take (a+m)=zs.take a++List.replicate m (zs.getD a 0):=by
 have h2:=zfK zs a ha;rw [List.take_add];congr 1
 apply List.ext_getElem
 ·rw [List.length_take,List.length_drop,List.length_replicate];omega
 ·intro i h1 h3
  rw [List.getElem_replicate,List.getElem_take,List.getElem_drop];rw [List.length_take,List.length_drop] at h1;have h4:=zjX (zs:=zs) (a:=a) (i:=i) (by omega);rw [←h4];simp only [List.getD];rw [List.getElem?_eq_getElem (by omega)];rfl
theorem zg2 {zs:List Int}{a:Nat}(hl:zs.length≤320) (ha:a<zs.length) (hb:0≤zs.getD a 0∧zs.getD a 0≤15):¬Wi (z8 zs a) ((qi zs a-spl (z8 zs a):Nat):Int) a:=by
 have h1:=kf ha hb.2;have h2:=JG (z8 zs a);have h3:qi zs a≤spm (z8 zs a):=Nat.min_le_right _ _;have h4:0≤z8 zs a∧z8 zs a≤18∧(z8 zs a=16→0<a):=by
  rcases Kq zs a with ⟨h,k⟩ | ⟨h,k⟩ | ⟨h,k1,k2⟩ | h <;> rw [h] <;> refine ⟨by omega,by omega,fun e=>?_⟩ <;> omega
 unfold Wi Bad;rintro (h | h | h | h)
 ·omega
 ·omega
 ·have:=h4.2.2 h.1;omega
 ·omega
theorem zlM {zs:List Int}(hl:zs.length≤320) (hb:∀ k,k<zs.length→0≤zs.getD k 0∧zs.getD k 0≤15) (n:Nat):∀ a,a≤zs.length→zs.length-a≤n→un (pk zs (zs.length-a) a) (zs.take a)=some zs:=by
 induction n with
 | zero=>
  intro a h1 h2;have e:a=zs.length:=by omega
  subst e;rw [zbf (Nat.le_refl _),un,List.take_length]
 | succ n ih=>
  intro a h1 h2;by_cases ha:a<zs.length
  ·have h3:=kf ha (hb a ha).2
   have h4:qi zs a≤rl zs a:=Nat.min_le_left _ _;rw [vA (fun k hk=>(hb k hk).2) ha];unfold pit;rw [un,List.length_take,Nat.min_eq_left (by omega),if_neg (zg2 hl ha (hb a ha)),zh3 ha (hb a ha).2];rw [show ((spl (z8 zs a):Int)+((qi zs a-spl (z8 zs a):Nat):Int)).toNat=qi zs a by omega,←ze2 h4 h1];exact ih _ h3.2.2.2 (by omega)
  ·have e:a=zs.length:=by omega
   subst e;rw [zbf (Nat.le_refl _),un,List.take_length]
theorem zkF {zs:List Int}(hl:zs.length≤320) (hb:∀ k,k<zs.length→0≤zs.getD k 0∧zs.getD k 0≤15):un (pkl zs) []=some zs:=by
 have:=zlM hl hb zs.length 0 (Nat.zero_le _) (by omega);simpa [pkl] using this
end
end Go.Proofs.YtacpfpghokcdlaaGreatDoor.Y
namespace Go.Proofs.YtacpfpghokcdlaaGreatDoor
set_option maxRecDepth 100000
theorem zlV {a b:List Nat}(h:cn a=cn b) (n:Nat):sp a n=sp b n:=by
 induction n with
 | zero=>rfl
 | succ n ih=>rw [sp,sp,ih,h]
theorem zlI {a b:List Nat}(h:cn a=cn b) (n:Nat):fp a n=fp b n:=by
 induction n with
 | zero=>rfl
 | succ n ih=>rw [fp,fp,ih,h]
theorem zb3 {a b:List Nat}(h:cn a=cn b):room a=room b:=zlV h 16
theorem zcD {a b:List Nat}(h:cn a=cn b):many a=many b:=zlI h 16
theorem zkq (ls:List Nat):room ls=room ls:=by
 have:∀ n,sp ls n=sp ls n:=by
  intro n;induction n with
  | zero=>rfl
  | succ n ih=>first | rfl | (rw [sp,sp,ih];rfl)
 exact this 16
theorem UA {l:List Nat}(h:∀ x∈l,x=0){n:Nat}(hn:n≠0):l.count n=0:=by
 rw [List.count_eq_zero];intro hm;exact hn (h n hm)
theorem vE {ls:List Nat}{k:Nat}(h:∀ i,k≤i→i<ls.length→ls.getD i 0=0):cn (ls.take k)=cn ls:=by
 funext n
 unfold cn;by_cases hn:n=0
 ·rw [if_pos hn,if_pos hn]
 ·rw [if_neg hn,if_neg hn]
  conv=>rhs;rw [←List.take_append_drop k ls,List.count_append]
  rw [UA (l:=ls.drop k) (fun x hx=>?_) hn,Nat.add_zero];obtain ⟨i,hi,rfl⟩:=List.mem_iff_getElem.1 hx;rw [List.length_drop] at hi;rw [List.getElem_drop];have:=h (k+i) (by omega) (by omega);rwa [List.getD_eq_getElem?_getD,List.getElem?_eq_getElem (by omega)] at this
theorem zbS {ls:List Nat}{k:Nat}(h:∀ i,k≤i→i<ls.length→ls.getD i 0=0) (y:Nat):ln (ls.take k) y=ln ls y:=by
 unfold ln;by_cases hy:y<k
 ·simp only [List.getD_eq_getElem?_getD,List.getElem?_take_of_lt hy]
 ·rw [List.getD_eq_getElem?_getD,List.getElem?_eq_none (by rw [List.length_take];omega)]
  by_cases h2:y<ls.length
  ·exact (h y (by omega) h2).symm
  ·rw [List.getD_eq_getElem?_getD,List.getElem?_eq_none (by omega)]
theorem zil (n:Nat):fp [] n=0:=by
 induction n with
 | zero=>rfl
 | succ n ih=>rw [fp,ih];simp [cn]
theorem ziq {x:Nat}(l:List Nat) (n:Nat):fp (x::l) n=fp l n+if 0<x∧x<n then 1 else 0:=by
 induction n with
 | zero=>simp [fp]
 | succ n ih=>
  rw [fp,fp,ih];have e:cn (x::l) n=cn l n+if n≠0∧x=n then 1 else 0:=by
   unfold cn;by_cases hn:n=0
   ·simp [hn]
   ·rw [if_neg hn,if_neg hn,List.count_cons]
    by_cases hx:x=n
    ·simp [hx,hn]
    ·simp [hx]
  rw [e];by_cases h1:0<x
  ·by_cases h2:x<n
   ·rw [if_pos ⟨h1,h2⟩,if_neg (by omega),if_pos (by omega)];omega
   ·by_cases h3:x=n
    ·rw [if_neg (by omega),if_pos (by omega),if_pos (by omega)];omega
    ·rw [if_neg (by omega),if_neg (by omega),if_neg (by omega)];omega
  ·rw [if_neg (by omega),if_neg (by omega),if_neg (by omega)];omega
theorem zax {l:List Nat}(h:∀ x∈l,x≤15):many l=l.countP fun x=>decide (0<x):=by
 unfold many;induction l with
 | nil=>exact zil 16
 | cons x l ih=>
  rw [ziq,ih fun z hz=>h z (List.mem_cons_of_mem _ hz),List.countP_cons];have:=h x (List.mem_cons_self ..);by_cases hx:0<x
  ·rw [if_pos (by omega),if_pos (decide_eq_true hx)]
  ·rw [if_neg (by omega),if_neg (by simpa using hx)]
def yk (ns:List Nat) (a b:Nat):Bool:=decide (ns.getD a 0<ns.getD b 0∨(ns.getD a 0=ns.getD b 0∧a≤b))
def usF (ns:List Nat):List Nat:=(Y.usd ns ns.length).mergeSort (yk ns)
theorem Qt (ns:List Nat):(usF ns).Pairwise fun a b=>yk ns a b=true:=by
 refine List.pairwise_mergeSort ?_ ?_ _
 ·intro a b c h1 h2
  simp only [yk,decide_eq_true_eq] at h1 h2 ⊢;omega
 ·intro a b
  simp only [yk,Bool.or_eq_true,decide_eq_true_eq];omega
theorem xZ (ns:List Nat):Y.kb ns (usF ns):=by
 refine ⟨List.mergeSort_perm _ _,?_,(Qt ns).imp fun h=>by simpa only [yk,decide_eq_true_eq] using h⟩
 unfold Y.Up Y.cts;rw [List.pairwise_map];refine (Qt ns).imp ?_;intro a b h;simp only [yk,decide_eq_true_eq] at h;omega
theorem zia {ns us:List Nat}(hp:us.Perm (Y.usd ns ns.length)) (h:us.Pairwise fun a b=>yk ns a b=true):us=usF ns:=by
 refine List.Perm.eq_of_pairwise (le:=fun a b=>yk ns a b=true) ?_ h (Qt ns) (hp.trans (xZ ns).perm.symm);intro a b _ _ h1 h2;simp only [yk,decide_eq_true_eq] at h1 h2;omega
def zT (ns:List Nat) (lim:Nat):List Nat:=Y.lens ns (usF ns) lim
def uses (ns:List Nat):Nat:=(Y.usd ns ns.length).length
theorem kO (ns:List Nat):(usF ns).length=uses ns:=(xZ ns).perm.length_eq
theorem xH (ns:List Nat) (lim:Nat):(zT ns lim).length=ns.length:=Y.Uu _ _ _
section
variable {ns:List Nat}{lim:Nat}
theorem JT (hl:1≤lim) (h2:uses ns≤2^lim):∀ x∈zT ns lim,x≤lim:=Y.zcV (xZ ns) hl (by rw [kO];exact h2)
theorem zfW (hl:1≤lim) (h2:uses ns≤2^lim){s:Nat}(h:ns.getD s 0=0):ln (zT ns lim) s=0:=by
 unfold ln;by_cases hs:s<ns.length
 ·unfold zT
  rw [Y.kQ _ _ _ hs];exact (Y.uG (xZ ns) hl (by rw [kO];exact h2) hs).1 h
 ·rw [List.getD_eq_getElem?_getD,List.getElem?_eq_none (by rw [xH];omega)];rfl
theorem ue (hl:1≤lim) (h2:uses ns≤2^lim){s:Nat}(h:0<ns.getD s 0):1≤ln (zT ns lim) s:=by
 have hs:s<ns.length:=by
  rcases Nat.lt_or_ge s ns.length with e | e
  ·exact e
  ·rw [List.getD_eq_getElem?_getD,List.getElem?_eq_none e] at h;exact absurd h (by simp)
 unfold ln zT;rw [Y.kQ _ _ _ hs];exact ((Y.uG (xZ ns) hl (by rw [kO];exact h2) hs).2 h).1
theorem Kd (hl:1≤lim∧lim≤15) (h2:uses ns≤2^lim):room (zT ns lim)=if uses ns=0 then 0 else if uses ns=1 then 16384 else 32768:=by
 rw [←zkq];have:=Y.zea (xZ ns) hl (by rw [kO];exact h2);rw [kO] at this;exact this
theorem zaL (hn:ns.length≤320) (hl:1≤lim∧lim≤15) (h2:uses ns≤2^lim):Ok (zT ns lim):=by
 refine ⟨by rw [xH];exact hn,fun x hx=>by have:=JT hl.1 h2 x hx;omega,?_⟩
 rw [Kd hl h2];split
 ·omega
 ·split <;> omega
theorem Ub (hl:1≤lim∧lim≤15) (h2:uses ns≤2^lim):many (zT ns lim)=uses ns:=by
 rw [zax fun x hx=>by have:=JT hl.1 h2 x hx;omega]
 have e:zT ns lim=(List.range ns.length).map (ln (zT ns lim)):=by
  apply List.ext_getElem
  ·simp [xH]
  ·intro i h1 h3
   simp only [List.getElem_map,List.getElem_range,ln,List.getD_eq_getElem?_getD,List.getElem?_eq_getElem h1];rfl
 rw [e,List.countP_map];unfold uses Y.usd;rw [←List.countP_eq_length_filter];refine List.countP_congr fun s hs=>?_
 have hs:=List.mem_range.1 hs;simp only [Function.comp,decide_eq_true_eq];constructor
 ·intro h
  rcases Nat.eq_zero_or_pos (ns.getD s 0) with e0 | e0
  ·have:=zfW hl.1 h2 e0;omega
  ·exact e0
 ·intro h;exact ue hl.1 h2 h
end
theorem vq (ns:List Nat):uses ns≤ns.length:=Y.Qp ns ns.length
theorem zfe {ns:List Nat}{a b:Nat}(hab:a≠b) (ha:0<ns.getD a 0) (hb:0<ns.getD b 0):2≤uses ns:=by
 have hl:∀ s,0<ns.getD s 0→s∈Y.usd ns ns.length:=fun s h=>by
  refine Y.yD.2 ⟨?_,h⟩;rcases Nat.lt_or_ge s ns.length with e | e
  ·exact e
  ·rw [List.getD_eq_getElem?_getD,List.getElem?_eq_none e] at h;exact absurd h (by simp)
 have h1:=hl a ha;have h2:=hl b hb;unfold uses;match hd:Y.usd ns ns.length with
 | []=>rw [hd] at h1;cases h1
 | [x]=>rw [hd] at h1 h2;exact absurd ((List.mem_singleton.1 h1).trans (List.mem_singleton.1 h2).symm) hab
 | x::y::r=>simp
theorem zgR {ns:List Nat}{a:Nat}(ha:0<ns.getD a 0):1≤uses ns:=by
 have h1:a∈Y.usd ns ns.length:=by
  refine Y.yD.2 ⟨?_,ha⟩;rcases Nat.lt_or_ge a ns.length with e | e
  ·exact e
  ·rw [List.getD_eq_getElem?_getD,List.getElem?_eq_none e] at ha;exact absurd ha (by simp)
 exact List.length_pos_of_mem h1
theorem Ku {ns:List Nat}{lim:Nat}(hl:1≤lim∧lim≤15) (h2:uses ns≤2^lim) (h1:1≤uses ns):room (zT ns lim)=32768∨(many (zT ns lim)=1∧∃ s,ln (zT ns lim) s=1):=by
 rw [Kd hl h2,Ub hl h2,if_neg (by omega)];by_cases e:uses ns=1
 ·right
  refine ⟨e,?_⟩;have hu:(usF ns).length=1:=by rw [kO,e]
  obtain ⟨s,hs⟩:∃ s,usF ns=[s]:=by
   match hd:usF ns with
   | []=>rw [hd] at hu;cases hu
   | [x]=>exact ⟨x,rfl⟩
   | x::y::r=>rw [hd] at hu;simp at hu
  have hm:=(xZ ns).mem.1 (show s∈usF ns by rw [hs];exact List.mem_singleton.2 rfl);refine ⟨s,?_⟩;unfold ln zT;rw [Y.kQ _ _ _ hm.1];unfold Y.LF Y.ju;rw [if_pos (by rw [hs];exact List.mem_singleton.2 rfl),Y.zS,hu,if_pos rfl]
 ·left
  rw [if_neg e]
def trz (few:Nat) (ls:List Nat):Nat→Nat
 | 0=>0
 | n+1=>if few<n+1∧ls.getD n 0=0 then trz few ls n else n+1
theorem QJ (few:Nat) (ls:List Nat) (n:Nat):trz few ls n≤n:=by
 induction n with
 | zero=>exact Nat.le_refl _
 | succ n ih=>rw [trz];split <;> omega
theorem zeT (few:Nat) (ls:List Nat) (n:Nat) (h:few≤n):few≤trz few ls n:=by
 induction n with
 | zero=>exact h
 | succ n ih=>
  rw [trz];split
  ·exact ih (by omega)
  ·exact h
theorem UY (few:Nat) (ls:List Nat) (n:Nat):∀ i,trz few ls n≤i→i<n→ls.getD i 0=0:=by
 induction n with
 | zero=>intro i _ h;omega
 | succ n ih=>
  intro i h1 h2;rw [trz] at h1;split at h1
  ·rename_i h
   by_cases e:i=n
   ·subst e;exact h.2
   ·exact ih i h1 (by omega)
  ·omega
def flF (r:List Tok):List Nat:=(zT (cfL r) 15).take (trz 257 (zT (cfL r) 15) 286)
def olF (r:List Tok):List Nat:=(zT (coL r) 15).take (trz 1 (zT (coL r) 15) 30)
theorem U5 (r:List Tok):uses (cfL r)≤2^15:=by have:=vq (cfL r);rw [qt] at this;omega
theorem Uz (r:List Tok):uses (coL r)≤2^15:=by have:=vq (coL r);rw [qx] at this;omega
theorem zix (r:List Tok):(flF r).length=trz 257 (zT (cfL r) 15) 286:=by
 have:=QJ 257 (zT (cfL r) 15) 286;unfold flF;rw [List.length_take,xH,qt];omega
theorem ziX (r:List Tok):(olF r).length=trz 1 (zT (coL r) 15) 30:=by
 have:=QJ 1 (zT (coL r) 15) 30;unfold olF;rw [List.length_take,xH,qx];omega
theorem uU (r:List Tok):257≤(flF r).length∧(flF r).length≤286:=by
 rw [zix];exact ⟨zeT _ _ _ (by omega),QJ _ _ _⟩
theorem vV (r:List Tok):1≤(olF r).length∧(olF r).length≤30:=by
 rw [ziX];exact ⟨zeT _ _ _ (by omega),QJ _ _ _⟩
theorem Ql (r:List Tok):∀ i,trz 257 (zT (cfL r) 15) 286≤i→i<(zT (cfL r) 15).length→(zT (cfL r) 15).getD i 0=0:=by
 rw [xH,qt];exact UY _ _ _
theorem QO (r:List Tok):∀ i,trz 1 (zT (coL r) 15) 30≤i→i<(zT (coL r) 15).length→(zT (coL r) 15).getD i 0=0:=by
 rw [xH,qx];exact UY _ _ _
theorem zbP (r:List Tok) (y:Nat):ln (flF r) y=ln (zT (cfL r) 15) y:=zbS (Ql r) y
theorem zg6 (r:List Tok) (y:Nat):ln (olF r) y=ln (zT (coL r) 15) y:=zbS (QO r) y
theorem zhp (r:List Tok):∀ x∈flF r,x≤15:=fun x hx=>JT (by omega) (U5 r) x (List.mem_of_mem_take hx)
theorem zfz (r:List Tok):∀ x∈olF r,x≤15:=fun x hx=>JT (by omega) (Uz r) x (List.mem_of_mem_take hx)
theorem Ug (r:List Tok):room (flF r)=room (zT (cfL r) 15):=zb3 (vE (Ql r))
theorem U6 (r:List Tok):room (olF r)=room (zT (coL r) 15):=zb3 (vE (QO r))
theorem zgj (r:List Tok):many (flF r)=many (zT (cfL r) 15):=zcD (vE (Ql r))
theorem XR (r:List Tok):many (olF r)=many (zT (coL r) 15):=zcD (vE (QO r))
theorem zbB (r:List Tok):Ok (flF r):=⟨by have:=(uU r).2;omega,zhp r,by rw [Ug];exact (zaL (by rw [qt];omega) ⟨by omega,by omega⟩ (U5 r)).few⟩
theorem zaX (r:List Tok):Ok (olF r):=⟨by have:=(vV r).2;omega,zfz r,by rw [U6];exact (zaL (by rw [qx];omega) ⟨by omega,by omega⟩ (Uz r)).few⟩
theorem Qx (r:List Tok):ln (flF r) 256≠0:=by
 rw [zbP];have:=ue (ns:=cfL r) (lim:=15) (by omega) (U5 r) (s:=256) (by rw [uL r (by omega),if_pos rfl];omega);omega
theorem zb7 {r:List Tok}{t:Tok}(h:z7 t) (ht:t∈r):ln (flF r) (fsy t)≠0:=by
 rw [zbP];have:=ue (ns:=cfL r) (lim:=15) (by omega) (U5 r) (s:=fsy t) (by rw [uL r h.fsy.1];have:=zey ht;omega);omega
theorem zcp {r:List Tok}{t:Tok}(h:z7 t) (ht:t∈r) (h0:t.len≠0):ln (olF r) (dsy t.dist)≠0:=by
 rw [zg6];have:=ue (ns:=coL r) (lim:=15) (by omega) (Uz r) (s:=dsy t.dist) (by rw [Q5 r (h.dsy h0)];exact zga ht h0);omega
theorem zhb {ls:List Nat}{s:Nat}(h:ln ls s=1):1∈ls:=by
 unfold ln at h;rcases Nat.lt_or_ge s ls.length with e | e
 ·rw [List.getD_eq_getElem?_getD,List.getElem?_eq_getElem e] at h
  have h':ls[s]=1:=h;rw [←h'];exact List.getElem_mem e
 ·rw [List.getD_eq_getElem?_getD,List.getElem?_eq_none e] at h;cases h
theorem zef (r:List Tok):whole (flF r)=true:=by
 unfold whole;rw [decide_eq_true_eq,Ug,zgj];have h1:1≤uses (cfL r):=zgR (a:=256) (by rw [uL r (by omega),if_pos rfl];omega);rcases Ku (lim:=15) ⟨by omega,by omega⟩ (U5 r) h1 with h | ⟨h,s,hs⟩
 ·exact .inl h
 ·exact .inr ⟨h,zhb (s:=s) (by rw [zbP];exact hs)⟩
theorem zee (r:List Tok):whole (olF r)=true∨many (olF r)=0:=by
 by_cases h0:uses (coL r)=0
 ·right;rw [XR,Ub ⟨by omega,by omega⟩ (Uz r),h0]
 ·left
  unfold whole;rw [decide_eq_true_eq,U6,XR];rcases Ku (lim:=15) ⟨by omega,by omega⟩ (Uz r) (by omega) with h | ⟨h,s,hs⟩
  ·exact .inl h
  ·exact .inr ⟨h,zhb (s:=s) (by rw [zg6];exact hs)⟩
def qG (r:List Tok):List Nat:=flF r++olF r
theorem yp (r:List Tok):258≤(qG r).length∧(qG r).length≤316:=by
 have:=uU r;have:=vV r;unfold qG;rw [List.length_append];omega
theorem kL (r:List Tok):∀ x∈qG r,x≤15:=fun x hx=>by
 rcases List.mem_append.1 hx with h | h
 ·exact zhp r x h
 ·exact zfz r x h
theorem UI (r:List Tok):(qG r).getD 256 0≠0:=by
 have h1:=Qx r;have h2:=uU r;unfold ln at h1;unfold qG;rwa [List.getD_eq_getElem?_getD,List.getElem?_append_left (by omega),←List.getD_eq_getElem?_getD]
theorem zdU (r:List Tok):fits (qG r) (flF r).length=true:=by
 unfold fits qG;rw [List.take_left,List.drop_left,zef,Bool.and_true,decide_eq_true ⟨(zbB r).few,(zaX r).few⟩,Bool.true_and];rcases zee r with h | h
 ·rw [h,Bool.true_or]
 ·rw [decide_eq_true h,Bool.or_true]
def qA (row:List Nat):List (Int × Int):=Y.pkl (Y.ints row)
def nt (x:Int × Int):Nat × Nat:=(x.1.toNat,x.2.toNat)
def zC (row:List Nat):List (Nat × Nat):=(qA row).map nt
theorem zkT {zs:List Int}{x:Int × Int}:∀ (f a:Nat),x∈Y.pk zs f a→∃ b,b<zs.length∧x=Y.pit zs b:=by
 intro f;induction f with
 | zero=>intro a h;rw [Y.pk] at h;cases h
 | succ f ih=>
  intro a h;rw [Y.pk] at h;split at h
  ·rename_i ha
   rcases List.mem_cons.1 h with h | h
   ·exact ⟨a,ha,h⟩
   ·exact ih _ h
  ·cases h
theorem zbd {row:List Nat}(h15:∀ x∈row,x≤15):∀ k,k<(Y.ints row).length→0≤(Y.ints row).getD k 0∧(Y.ints row).getD k 0≤15:=by
 intro k hk;rw [Y.zj] at hk;rw [Y.ints_at];have:row.getD k 0≤15:=by
  rw [List.getD_eq_getElem?_getD,List.getElem?_eq_getElem hk];exact h15 _ (List.getElem_mem hk)
 omega
structure ItF (x:Int × Int):Prop where
 sym:0≤x.1∧x.1≤18
 ext:0≤x.2
 small:(x.1<16→x.2=0)∧(x.1=16→x.2<4)∧(x.1=17→x.2<8)∧(x.1=18→x.2<128)
theorem za9 {row:List Nat}(h15:∀ x∈row,x≤15) (hl:row.length≤320){x:Int × Int}(hx:x∈qA row):ItF x:=by
 obtain ⟨b,hb,rfl⟩:=zkT _ _ hx;have hw:=Y.zg2 (by rw [Y.zj];exact hl) hb (zbd h15 b hb);unfold Y.Wi Y.Bad at hw;have h1:0≤Y.z8 (Y.ints row) b∧Y.z8 (Y.ints row) b≤18:=by omega
 have h2:((Y.qi (Y.ints row) b-Y.spl (Y.z8 (Y.ints row) b):Nat):Int)≤(Y.spm (Y.z8 (Y.ints row) b):Int)-Y.spl (Y.z8 (Y.ints row) b):=by omega
 unfold Y.pit;generalize Y.z8 (Y.ints row) b=s at *;generalize ((Y.qi (Y.ints row) b-Y.spl s:Nat))=e at *;refine ⟨h1,by simp only;omega,?_,?_,?_,?_⟩
 ·intro h
  simp only at h ⊢;rw [Y.spm,Y.spl,if_neg (by omega),if_neg (by omega),if_neg (by omega),if_neg (by omega),if_neg (by omega),if_neg (by omega)] at h2;omega
 ·intro h
  simp only at h ⊢;rw [Y.spm,Y.spl,if_pos h,if_pos h] at h2;omega
 ·intro h
  simp only at h ⊢;rw [Y.spm,Y.spl,if_neg (by omega),if_pos h,if_neg (by omega),if_pos h] at h2;omega
 ·intro h
  simp only at h ⊢;rw [Y.spm,Y.spl,if_neg (by omega),if_neg (by omega),if_pos h,if_neg (by omega),if_neg (by omega),if_pos h] at h2;omega
theorem Uw (a b:List Nat):Y.ints a++Y.ints b=Y.ints (a++b):=by simp [Y.ints]
theorem JH (n x:Nat):List.replicate n (x:Int)=Y.ints (List.replicate n x):=by simp [Y.ints]
theorem zlF:∀ (its:List (Int × Int)) (ts:List Nat) (zs:List Int),(∀ x∈its,ItF x)→Y.un its (Y.ints ts)=some zs→∃ full,zs=Y.ints full∧unT (its.map nt) ts=some full:=by
 intro its;induction its with
 | nil=>
  intro ts zs _ h;rw [Y.un] at h;cases h;exact ⟨ts,rfl,rfl⟩
 | cons x its ih=>
  intro ts zs hx h;obtain ⟨s,e⟩:=x;have hi:=hx (s,e) (List.mem_cons_self ..);obtain ⟨hs,he,h1,h2,h3,h4⟩:=hi;simp only at hs he h1 h2 h3 h4;rw [Y.un] at h;split at h
  ·cases h
  ·rename_i hw
   unfold Y.Wi Y.Bad at hw;rw [Y.zj] at hw;obtain ⟨S,rfl⟩:=Int.eq_ofNat_of_zero_le hs.1;obtain ⟨E,rfl⟩:=Int.eq_ofNat_of_zero_le he;have key:∃ t,told S E ts=some t∧List.replicate ((Y.spl (S:Int):Int)+(E:Int)).toNat (Y.tv (S:Int) (Y.ints ts))=Y.ints t:=by
    by_cases c16:S<16
    ·have e0:E=0:=by have:=h1 (by omega);omega
     refine ⟨[S],by unfold told;rw [if_pos c16],?_⟩;unfold Y.spl Y.tv;rw [if_neg (by omega),if_neg (by omega),if_neg (by omega),if_neg (by omega),if_neg (by omega),if_neg (by omega),e0];rfl
    ·by_cases c2:S=16
     ·subst c2
      have hne:ts≠[]:=fun e=>by subst e;simp at hw
      refine ⟨List.replicate (3+E) (ts.getLastD 0),by unfold told;rw [if_neg (by omega),if_pos rfl,if_neg hne],?_⟩;rw [←JH];unfold Y.spl Y.tv;rw [if_pos (by rfl),if_pos (by rfl),Y.zj,Y.ints_at];have eL:ts.getLastD 0=ts.getD (ts.length-1) 0:=by
       rw [List.getLastD_eq_getLast?,List.getLast?_eq_getElem?,List.getD_eq_getElem?_getD]
      rw [eL];congr 1
     ·by_cases c3:S=17
      ·subst c3
       refine ⟨List.replicate (3+E) 0,by unfold told;rw [if_neg (by omega),if_neg (by omega),if_pos rfl],?_⟩;rw [←JH];unfold Y.spl Y.tv;rw [if_neg (by omega),if_pos (by rfl),if_neg (by omega),if_pos (by rfl)];congr 1
      ·obtain rfl:S=18:=by omega
       refine ⟨List.replicate (11+E) 0,by unfold told;rw [if_neg (by omega),if_neg (by omega),if_neg (by omega),if_pos rfl],?_⟩;rw [←JH];unfold Y.spl Y.tv;rw [if_neg (by omega),if_neg (by omega),if_pos (by rfl),if_neg (by omega),if_neg (by omega),if_pos (by rfl)];congr 1
   obtain ⟨t,ht,hr⟩:=key;rw [hr,Uw] at h;obtain ⟨full,hf,hu⟩:=ih (ts++t) zs (fun y hy=>hx y (List.mem_cons_of_mem _ hy)) h;refine ⟨full,hf,?_⟩;rw [List.map_cons,unT];show (match told S E ts with | none=>none | some t=>unT (its.map nt) (ts++t))=some full;rw [ht];exact hu
theorem zeu {a b:List Nat}(h:Y.ints a=Y.ints b):a=b:=by
 apply List.ext_getElem?;intro i;have:=congrArg (fun l:List Int=>l[i]?) h;simp only [Y.ints,List.getElem?_map] at this;cases ha:a[i]? <;> cases hb:b[i]? <;> simp [ha,hb] at this ⊢;omega
theorem zbI {row:List Nat}(h15:∀ x∈row,x≤15) (hl:row.length≤320):unT (zC row) []=some row:=by
 have h:=Y.zkF (zs:=Y.ints row) (by rw [Y.zj];exact hl) (zbd h15);obtain ⟨full,hf,hu⟩:=zlF (Y.pkl (Y.ints row)) [] (Y.ints row) (fun x hx=>za9 h15 hl hx) h;rw [←zeu hf] at hu;exact hu
theorem ja {row:List Nat}(h15:∀ x∈row,x≤15) (hl:row.length≤320){x:Nat × Nat}(hx:x∈zC row):x.1≤18∧(16≤x.1∧x.1≤18→x.2<2^xb x.1)∧(¬(16≤x.1∧x.1≤18)→x.2=0):=by
 obtain ⟨z,hz,rfl⟩:=List.mem_map.1 hx;obtain ⟨hs,he,h1,h2,h3,h4⟩:=za9 h15 hl hz;refine ⟨by show z.1.toNat≤18;omega,fun h=>?_,fun h=>?_⟩
 ·show z.2.toNat<2^xb z.1.toNat
  have h':16≤z.1.toNat∧z.1.toNat≤18:=h;unfold xb;by_cases a:z.1.toNat=16
  ·rw [if_pos a];have:=h2 (by omega);omega
  ·rw [if_neg a]
   by_cases b:z.1.toNat=17
   ·rw [if_pos b];have:=h3 (by omega);omega
   ·rw [if_neg b,if_pos (by omega)];have:=h4 (by omega);omega
 ·have h':¬(16≤z.1.toNat∧z.1.toNat≤18):=h
  show z.2.toNat=0;have:=h1 (by omega);omega
theorem zjm (y:Nat):∀ (its:List (Nat × Nat)) (row full:List Nat),(∀ x∈its,x.1=y)→unT its row=some full→
  (y<16→full=row++List.replicate its.length y)∧(17≤y→∃ n,full=row++List.replicate n 0):=by
 intro its;induction its with
 | nil=>intro row full _ h;cases h;exact ⟨fun _=>by simp,fun _=>⟨0,by simp⟩⟩
 | cons x its ih=>
  intro row full hx h;have h0:=hx x (List.mem_cons_self ..);rw [unT] at h;cases ht:told x.1 x.2 row with
  | none=>rw [ht] at h;cases h
  | some t=>
   rw [ht] at h;obtain ⟨i1,i2⟩:=ih (row++t) full (fun z hz=>hx z (List.mem_cons_of_mem _ hz)) h;rw [h0] at ht;refine ⟨fun hy=>?_,fun hy=>?_⟩
   ·unfold told at ht
    rw [if_pos hy] at ht;cases ht;rw [i1 hy,List.append_assoc,List.length_cons,List.replicate_succ];rfl
   ·obtain ⟨n,hn⟩:=i2 hy
    have:∃ m,t=List.replicate m 0:=by
     unfold told at ht;rw [if_neg (by omega),if_neg (by omega)] at ht;split at ht
     ·cases ht;exact ⟨_,rfl⟩
     ·split at ht
      ·cases ht;exact ⟨_,rfl⟩
      ·cases ht
    obtain ⟨m,rfl⟩:=this;exact ⟨m+n,by rw [hn,List.append_assoc,List.replicate_append_replicate]⟩
theorem zjc {row:List Nat}(h15:∀ x∈row,x≤15) (hl:258≤row.length∧row.length≤320) (h256:row.getD 256 0≠0):∃ x∈zC row,∃ z∈zC row,x.1≠z.1:=by
 have hu:=zbI h15 hl.2;refine Classical.byContradiction fun hc=>?_
 have hall:∀ x∈zC row,∀ z∈zC row,x.1=z.1:=fun x hx z hz=>Classical.byContradiction fun hn=>hc ⟨x,hx,z,hz,hn⟩
 match hd:zC row with
 | []=>
  rw [hd] at hu;cases hu;simp at hl
 | x::rest=>
  have hall':∀ z∈x::rest,z.1=x.1:=fun z hz=>hall z (by rw [hd];exact hz) x (by rw [hd];exact List.mem_cons_self ..)
  rw [hd] at hu;obtain ⟨i1,i2⟩:=zjm x.1 (x::rest) [] row hall' hu;rcases Nat.lt_or_ge x.1 16 with hy | hy
  ·have he:=i1 hy
   rw [List.nil_append] at he;obtain ⟨n,hn⟩:=exq ((x::rest).length);rw [←hn] at he;have hn2:n=row.length:=by rw [he,List.length_replicate]
   have hat:∀ k,k<row.length→(Y.ints row).getD k 0=(x.1:Int):=fun k hk=>by
    rw [Y.ints_at,he,List.getD_eq_getElem?_getD,List.getElem?_replicate,if_pos (by omega)];rfl
   have hy0:x.1≠0:=by
    have:=hat 256 (by omega);rw [Y.ints_at] at this;omega
   have hz:∀ k,k<(Y.ints row).length→(Y.ints row).getD k 0≤15:=fun k hk=>(zbd h15 k hk).2
   have hil:=Y.zj row;have hrl:∀ k,k+3≤row.length→3≤Y.rl (Y.ints row) k:=fun k hk=>by
    refine Classical.byContradiction fun hlt=>?_
    have h1:=Y.zbT (zs:=Y.ints row) (a:=k) (by rw [hil];omega);have h2:=hat (k+Y.rl (Y.ints row) k) (by omega);have h3:=hat k (by omega);exact h1 (by rw [h2,h3])
   have s0:Y.z8 (Y.ints row) 0=(x.1:Int):=by
    unfold Y.z8;rw [hat 0 (by omega),if_neg (by omega),if_neg (by omega),if_neg (by omega)]
   have m0:Y.qi (Y.ints row) 0=1:=by
    unfold Y.qi;rw [s0];have h1:=hrl 0 (by omega);rw [Y.spm,if_neg (by omega),if_neg (by omega),if_neg (by omega)];omega
   have s1:Y.z8 (Y.ints row) 1=16:=by
    unfold Y.z8;rw [hat 1 (by omega),show 1-1=0 from rfl,hat 0 (by omega),if_neg (by omega),if_neg (by omega),if_pos ⟨by omega,hrl 1 (by omega),by omega,rfl⟩]
   have hp:qA row=Y.pit (Y.ints row) 0::Y.pit (Y.ints row) 1::Y.pk (Y.ints row) ((Y.ints row).length-(1+Y.qi (Y.ints row) 1)) (1+Y.qi (Y.ints row) 1):=by
    unfold qA Y.pkl;have a:=Y.vA hz (a:=0) (by rw [hil];omega);rw [Nat.sub_zero] at a;rw [a,m0,Nat.zero_add,Y.vA hz (a:=1) (by rw [hil];omega)]
   have h16:nt (Y.pit (Y.ints row) 1)∈zC row:=by
    unfold zC;rw [hp];simp
   have:=hall' _ (by rw [←hd];exact h16);unfold nt Y.pit at this;rw [s1] at this;have:(16:Nat)=x.1:=this;omega
  ·rcases Nat.lt_or_ge x.1 17 with h17 | h17
   ·have h16:x.1=16:=by omega
    rw [unT,show told x.1 x.2 []=none by unfold told;rw [if_neg (by omega),if_pos h16,if_pos rfl]] at hu;cases hu
   ·obtain ⟨n,hn⟩:=i2 h17
    apply h256;rw [hn,List.nil_append,List.getD_eq_getElem?_getD,List.getElem?_replicate];split <;> rfl
end Go.Proofs.YtacpfpghokcdlaaGreatDoor
