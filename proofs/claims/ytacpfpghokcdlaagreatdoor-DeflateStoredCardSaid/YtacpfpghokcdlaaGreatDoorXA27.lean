/- Part 27. -/
import Derived.Test.YtacpfpghokcdlaaGreatDoorXA20
namespace Go.Proofs.YtacpfpghokcdlaaGreatDoor
set_option maxRecDepth 100000
section
open Go.RowKit
set_option maxHeartbeats 1600000 in
theorem rBound_yes (w:World) (n:Nat) (h:n≤1099511627776):Calls Tryz.prog 18 #[.int .i64 (n:Nat)] w fun e w'=>e = .returned (.int .i64 (bnd n:Nat))∧w'=w:=by
 obtain ⟨q,hq⟩:∃ q,q=(n+65534)/65535:=⟨_,rfl⟩
 obtain ⟨m,hm⟩:∃ m,m=max q 1:=⟨_,rfl⟩
 obtain ⟨r,hr⟩:∃ r,r=bnd n:=⟨_,rfl⟩
 have hrr:r=n+5*m:=by rw [hr,hm,hq,bnd]
 rw [←hr]
 have e0:decide ((1099511627776:Int)<n)=false:=by simp;omega
 have e1:IntKind.i64.wrap ((n:Int)+65534)=(n:Int)+65534:=by rw [IntKind.wrap_i64];omega
 have e2:((n:Int)+65534).tdiv 65535=(q:Int):=by rw [Int.tdiv_eq_ediv_of_nonneg (by omega)];omega
 have e2':((n:Int)+65534)/65535=(q:Int):=by omega
 have e3:max (q:Int) 1=(m:Int):=by omega
 have hqb:q≤17000000:=by omega
 have hmb:m≤17000000:=by omega
 have e4:IntKind.i64.wrap (5*(m:Int))=5*(m:Int):=by rw [IntKind.wrap_i64];omega
 have e5:IntKind.i64.wrap ((n:Int)+5*(m:Int))=(r:Int):=by rw [IntKind.wrap_i64];omega
 have e6:(n:Int)+5*(m:Int)=(r:Int):=by omega
 have E2:=Lib.hid e2
 have E3:=Lib.hid e3
 clear hq hm hr hrr e2 e3
 have e2:=E2.out
 have e3:=E3.out
 go_enter Tryz.func18,Tryz.ntmps18
 go_wp2
 go_ret
 exact ⟨rfl,rfl⟩
theorem rBound_no (w:World) (n:Int) (h:n<0∨1099511627776<n):Calls Tryz.prog 18 #[.int .i64 n] w fun e w'=>e = .returned (.int .i64 0)∧w'=w:=by
 by_cases h0:n<0
 ·clear h
  go_enter Tryz.func18,Tryz.ntmps18
  go_wp2
  go_ret
  exact ⟨rfl,rfl⟩
 ·have h1:(1099511627776:Int)<n:=by omega
  have h0':decide (n<0)=false:=by simp;omega
  clear h h0
  go_enter Tryz.func18,Tryz.ntmps18
  go_wp2
  go_ret
  exact ⟨rfl,rfl⟩
theorem stored_out {Tb:World→Prop} (A:Alive8 Tb) (ao:Option Addr) (L c:Nat) (many n:Int) (w:World) (hT:Tb w) (hL:L≤9223372036854775807) (hl:¬(L≤100∧0≤many∧many≤2000)) :
  Calls Tryz.prog 4 #[.slice ao L c,.int .i64 many,.int .i64 n] w fun e w'=>e = .returned (.bool true)∧Below w.heap.size w w':=by
 have HA:=Lib.hid (A w hT)
 clear hT A
 by_cases h1:100<L
 ·have h1':(100:Int)<L:=by omega
  clear hl h1
  go_enter Tryz.func4,Tryz.ntmps4
  go_wp2_with fail
  refine HA.out.mono ?_
  rintro e w1 ⟨rfl,hb1⟩
  have HB:=Lib.hid hb1
  clear hb1
  go_wp2
  go_ret
  exact ⟨rfl,HB.out⟩
 ·have h1':decide ((100:Int)<L)=false:=by simp;omega
  have h1'':decide (100<L)=false:=by simp;omega
  by_cases h2:many<0
  ·clear hl h1
   go_enter Tryz.func4,Tryz.ntmps4
   go_wp2_with fail
   refine HA.out.mono ?_
   rintro e w1 ⟨rfl,hb1⟩
   have HB:=Lib.hid hb1
   clear hb1
   go_wp2
   go_ret
   exact ⟨rfl,HB.out⟩
  ·have h2':decide (many<0)=false:=by simp;omega
   have h3:2000<many:=by omega
   clear hl h1 h2
   go_enter Tryz.func4,Tryz.ntmps4
   go_wp2_with fail
   refine HA.out.mono ?_
   rintro e w1 ⟨rfl,hb1⟩
   have HB:=Lib.hid hb1
   clear hb1
   go_wp2
   go_ret
   exact ⟨rfl,HB.out⟩
def rep (xs:List Nat):Nat→List Nat
 | 0=>[]
 | k+1=>rep xs k++xs
theorem rep_len (xs:List Nat):∀ k,(rep xs k).length=k*xs.length:=by
 intro k
 induction k with
 | zero=>simp [rep]
 | succ k ih=>rw [rep,List.length_append,ih,Nat.succ_mul]
theorem rep_bs {xs:List Nat} (h:Bs xs):∀ k,Bs (rep xs k):=by
 intro k
 induction k with
 | zero=>intro x hx;simp [rep] at hx
 | succ k ih=>
  intro x hx
  rcases List.mem_append.1 hx with hx | hx
  ·exact ih x hx
  ·exact h x hx
set_option maxHeartbeats 3200000 in
theorem stored_walk {Tb:World→Prop} {D:List Nat→Nat→List Nat} (P:Prg8 Tb D stoF) (A:Alive8 Tb) (hSl:∀ bs:List Nat,bs.length≤300000→(stoF bs).length=bnd bs.length) (ao:Option Addr) (c:Nat) (xs:List Nat) (many:Nat) (n:Int) (w:World) (hT:Tb w) (h:BySl w (.slice ao xs.length c) xs) (hb:Bs xs) (hl:xs.length≤100) (hm:many≤2000) :
  Calls Tryz.prog 4 #[.slice ao xs.length c,.int .i64 (many:Nat),.int .i64 n] w fun e w'=>e = .returned (.bool true)∧Below w.heap.size w w':=by
 have HA:=Lib.hid (A w hT)
 have HP:=Lib.hid P
 have HT:=Lib.hid hT
 have HS:=Lib.hid h
 have HB:=Lib.hid hb
 obtain ⟨L,hL⟩:∃ L,L=xs.length:=⟨_,rfl⟩
 have HL:=Lib.hid hL
 rw [←hL] at hl ⊢
 have HLS:=Lib.hid (hSl (rep xs many) (by rw [rep_len,←hL];have:=Nat.mul_le_mul hm hl;omega))
 have d1:decide ((100:Int)<L)=false:=by simp;omega
 have d2:decide (100<L)=false:=by simp;omega
 have d3:decide ((2000:Int)<many)=false:=by simp;omega
 have d4:decide (2000<many)=false:=by simp;omega
 clear hT h hb P A hL hSl
 go_enter Tryz.func4,Tryz.ntmps4
 go_wp2_with fail
 refine HA.out.mono ?_
 rintro e w1 ⟨rfl,hb1⟩
 have B1:=Lib.hid hb1
 have DS0:Hid (Ds w1 (.slice (some ⟨w1.heap.size,0,none⟩) 0 0) [] (w1.alloc (.cells #[] 5))):=Lib.hid ⟨own_lit0 w1,(Below.refl w1.heap.size w1).more (Nat.le_refl _) _⟩
 clear hb1 HA
 go_wp2
 go_loopg [7,8] (many+1) (fun gm v7 v8 wr=>∃ (i n1:Nat) (bo:Option Addr) (cu:Nat),i≤many∧many+1-i≤gm∧n1≤100*i∧v7 = .slice bo n1 cu∧v8 = .int .i64 (i:Nat)∧Hid ((rep xs i).length=n1)∧Hid (Ds w1 (.slice bo n1 cu) (rep xs i) wr))
 case atStart=>exact ⟨0,0,_,_,Nat.zero_le _,Nat.le_refl _,by omega,rfl,rfl,Lib.hid rfl,DS0⟩
 case round=>
  clear DS0
  obtain ⟨i,n1,bo,cu,hi,hgm,hn1,rfl,rfl,HN,HD⟩:=hrel
  by_cases hlt:i<many
  ·have hlt':(i:Int)<many:=by omega
   have SRC:Hid (BySl wr (.slice ao L c) xs):=Lib.hid (by have:=HS.out.grow (B1.out.on HD.out.below);rwa [←HL.out] at this)
   have E1:=Lib.hid (show (rep xs i++xs).length=n1+L by rw [List.length_append,HN.out,←HL.out])
   go_wp2_with (refine wpList_append_x rfl (.tmp 29) (.tmp 30) rfl w1.heap.size (.slice bo n1 cu) (.slice ao L c) (rep xs i) xs rfl rfl (by have:=HD.out.own;rwa [HN.out] at this ⊢) SRC.out HD.out.below.size (by rw [HN.out,←HL.out];omega) ?_;intro ao3 c3 w3 hA;rw [E1.out] at hA;have D3:=Lib.hid (HD.out.app hA);rw [E1.out];clear hA)
   go_roundg (many+1-(i+1))
   case measure=>omega
   case rel=>exact ⟨i+1,n1+L,ao3,c3,by omega,Nat.le_refl _,by omega,rfl,by simp,Lib.hid E1.out,D3⟩
  ·obtain rfl:i=many:=by omega
   have Y1:=Lib.hid (show BySl wr (.slice bo n1 cu) (rep xs i) from BySl.own (by have:=HD.out.own;rwa [HN.out] at this ⊢))
   have BW:=Lib.hid (B1.out.on HD.out.below)
   have HRB:=Lib.hid (rep_bs HB.out i)
   clear HD
   go_wp2_with fail
   refine (HP.out.sto (HP.out.keep HT.out BW.out) Y1.out HRB.out (by rw [HN.out];omega)).mono ?_
   intro e w3 hk
   obtain ⟨ao3,c3,rfl,hy3,hb3⟩:=hk.by
   obtain ⟨s,hs⟩:∃ s,s=stoF (rep xs i):=⟨_,rfl⟩
   have HSE:=Lib.hid hs
   rw [←hs] at hy3 ⊢
   have B3:=Lib.hid (BW.out.on hb3)
   have Y3:=Lib.hid hy3
   have Z3:=Lib.hid (Y1.out.grow hb3)
   have HSL:Hid (s.length=bnd n1∧s.length≤1000000):=Lib.hid (by
    have:=HLS.out
    rw [←hs,HN.out] at this
    refine ⟨this,?_⟩
    rw [this];unfold bnd;omega)
   clear hk hy3 hb3 hs Y1 BW
   go_wp2_with fail
   refine (rSto_any w3 _ (rep xs i) Z3.out HRB.out (by rw [HN.out];omega)).mono ?_
   rw [←HSE.out]
   intro e w4 hk
   obtain ⟨ao4,c4,rfl,hy4,hb4⟩:=hk.by
   have B4:=Lib.hid (B3.out.on hb4)
   have Y4:=Lib.hid (Y3.out.grow hb4)
   have W4:=Lib.hid hy4
   clear hk hy4 hb4 Y3 B3 Z3
   go_wp2_with fail
   refine (same_any Y4.out W4.out (by have:=HSL.out.2;omega)).mono ?_
   rintro e w5 ⟨he,nq,hw5⟩
   rw [decide_eq_true rfl] at he
   subst he
   have hb5:=below_drewN (Below.refl w4.heap.size w4) nq
   rw [←hw5] at hb5
   have B5:=Lib.hid (B4.out.on hb5)
   clear hw5 hb5 Y4 W4 B4
   have hfin:∃ v:Int,(∀ W,Calls Tryz.prog 14 #[.int .i64 n] W fun e w'=>e = .returned (.int .i64 v)∧Below W.heap.size W w')∧(∀ W,Calls Tryz.prog 18 #[.int .i64 n] W fun e w'=>e = .returned (.int .i64 v)∧w'=W):=by
    by_cases hnn:n<0∨1099511627776<n
    ·exact ⟨0,fun W=>HP.out.none W n hnn,fun W=>rBound_no W n hnn⟩
    ·obtain ⟨k,rfl⟩:∃ k:Nat,n=(k:Int):=⟨n.toNat,by omega⟩
     exact ⟨(bnd k:Nat),fun W=>HP.out.bound W k (by omega),fun W=>rBound_yes W k (by omega)⟩
   obtain ⟨v,hv1,hv2⟩:=hfin
   have HV1:=Lib.hid hv1
   have HV2:=Lib.hid hv2
   clear hv1 hv2
   go_wp2_with fail
   refine (HV1.out _).mono ?_
   rintro e w6 ⟨rfl,hb6⟩
   have B6:=Lib.hid (B5.out.on hb6)
   clear hb6
   go_wp2_with fail
   refine (HV2.out _).mono ?_
   rintro e w7 ⟨rfl,rfl⟩
   go_wp2_with fail
   refine (rBound_yes _ n1 (by omega)).mono ?_
   rintro e w8 ⟨rfl,rfl⟩
   obtain ⟨z,hz⟩:∃ z,z=bnd n1:=⟨_,rfl⟩
   have hsl:s.length=z:=by rw [HSL.out.1,hz]
   rw [←hz,hsl]
   clear hz hsl
   go_wp2
   go_ret
   exact ⟨rfl,B6.out⟩
end
end Go.Proofs.YtacpfpghokcdlaaGreatDoor
