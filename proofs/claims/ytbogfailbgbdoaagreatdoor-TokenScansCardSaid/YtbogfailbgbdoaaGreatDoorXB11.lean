/- Part 11. -/
import Derived.Test.YtbogfailbgbdoaaGreatDoorXB10
set_option linter.unusedVariables false
set_option linter.unusedSimpArgs false
namespace Go.Proofs.YtbogfailbgbdoaaGreatDoor
set_option maxRecDepth 100000
section
open Go.RowKit U
theorem valid_sign (v:Nat):Lib.validRune (v:Int)=decide (isSign v):=by
 by_cases h:isSign v
 ·rw [decide_eq_true h]
  obtain ⟨h1,h2⟩:=h
  unfold Lib.validRune
  exact decide_eq_true (by omega)
 ·rw [decide_eq_false h]
  unfold Lib.validRune
  exact decide_eq_false (fun h'=>h (by unfold isSign;omega))
theorem rvF_succ (L:List Nat) (i:Nat) (h:1≤i):rvF L (i+1)=rvF L i*64+L.getD i 0%64:=by
 obtain ⟨j,rfl⟩:∃ j,i=j+1:=⟨i-1,by omega⟩
 rfl
theorem take_eq_at {L E:List Nat} {k:Nat} (hk:k<L.length) (he:k<E.length) (h:L.take k=E.take k) (hx:L.getD k 0=E.getD k 0):L.take (k+1)=E.take (k+1):=by
 rw [take_next L k hk,take_next E k he,h,hx]
set_option maxHeartbeats 12800000 in
theorem rNext_any (ao:Option Addr) (c:Nat) (xs:List Nat) (at_:Int) (w:World) (h:Sl w ao c xs) (hm:xs.length≤1000000000) :
  Calls Tryz.prog 31 #[.slice ao xs.length c,.int .i64 at_] w fun e w'=>e = .returned (.tuple #[.int .i64 ((nxF xs at_).1:Nat),.int .i64 ((nxF xs at_).2:Nat)])∧Below w.heap.size w w':=by
 by_cases c1:at_<0
 ·have e:nxF xs at_=(0,0):=by unfold nxF;rw [if_pos c1]
  rw [e]
  clear h e
  go_enter Tryz.func31,Tryz.ntmps31
  go_wp2
  go_ret2
  exact ⟨rfl,Below.refl _ _⟩
 by_cases c2:(xs.length:Int)≤at_
 ·have e:nxF xs at_=(0,0):=by unfold nxF;rw [if_neg c1,List.drop_eq_nil_of_le (by omega)];rfl
  rw [e]
  clear h e
  go_enter Tryz.func31,Tryz.ntmps31
  go_wp2
  go_ret2
  exact ⟨rfl,Below.refl _ _⟩
 obtain ⟨p,rfl⟩:∃ p:Nat,at_=(p:Int):=⟨at_.toNat,by omega⟩
 have hp:p<xs.length:=by omega
 rcases h.src with h0 | ⟨b,off,rfl,hc⟩
 ·rw [h0] at hp;simp at hp
 obtain ⟨L,hL⟩:∃ L,L=xs.drop p:=⟨_,rfl⟩
 have hLl:L.length=xs.length-p:=by rw [hL];simp
 have hbs:Bs L:=by rw [hL];exact h.bs.drop p
 have hcell:∀ (W:World),Below w.heap.size w W→∀ i,i<L.length→W.cell? ⟨b,off+(p+i),none⟩=some (.int .u8 (L.getD i 0:Nat)):=fun W hW i hi=>by
  have h1:=hc (p+i) (by omega)
  rw [(hW.cell (World.block_lt_of_cell? w _ h1)).trans h1,hL]
  simp [List.getD]
 have HCELL:=Lib.hid hcell
 have hRR:nxF xs (p:Int)=rfN L:=by rw [nxF_nat,←hL,rfN_nx hbs]
 obtain ⟨R,hR⟩:∃ R,R=nxF xs (p:Int):=⟨_,rfl⟩
 rw [←hR] at hRR ⊢
 have HB:=Lib.hid hbs
 have hc0:=hcell w (Below.refl _ _) 0 (by omega)
 rw [Nat.add_zero] at hc0
 have ha:=hbs.at 0
 obtain ⟨a,hae⟩:∃ a,a=L.getD 0 0:=⟨_,rfl⟩
 rw [←hae] at hc0 ha
 unfold rfN at hRR
 rw [←hae] at hRR
 have HAE:=Lib.hid hae
 obtain ⟨n,hn⟩:∃ n,n=xs.length:=⟨_,rfl⟩
 rw [←hn] at hm hp hLl c2 ⊢
 have HLL:=Lib.hid hLl
 clear h hL hbs hR hc hcell hae hn c1
 have hcase:(rn a=0∧128≤a∧a<192)∨(rn a=1∧rv0 a=a∧a<128)∨(rn a=2∧rv0 a=a-192∧192≤a∧a<224)∨(rn a=3∧rv0 a=a-224∧224≤a∧a<240)∨(rn a=4∧rv0 a=a-240∧240≤a):=by
  unfold rn rv0
  by_cases k1:240≤a
  ·simp [k1]
  by_cases k2:224≤a
  ·simp [k1,k2];omega
  by_cases k3:192≤a
  ·simp [k1,k2,k3];omega
  by_cases k4:128≤a
  ·simp [k1,k2,k3,k4];omega
  ·simp [k1,k2,k3,k4];omega
 rcases hcase with ⟨q1,q2,q3⟩ | hcase
 ·have HR:Hid (R=(0,0)):=Lib.hid (by rw [hRR,q1,if_pos (.inl rfl)])
  have z1:¬(240:Int)≤a:=by omega
  have z2:¬(224:Int)≤a:=by omega
  have z3:¬(192:Int)≤a:=by omega
  have z4:(128:Int)≤a:=by omega
  clear hRR q1 q2 q3 hLl ha
  go_enter Tryz.func31,Tryz.ntmps31
  go_wp2
  go_ret2
  exact ⟨by rw [HR.out];rfl,Below.refl _ _⟩
 rcases hcase with ⟨q1,q2,q3⟩ | ⟨q1,q2,q3⟩ | ⟨q1,q2,q3⟩ | ⟨q1,q2,q3⟩
 ·have hV0:rvF L 1=rv0 a:=by rw [HAE.out];rfl
  rw [q2] at hV0
  rw [q1] at hRR
  obtain ⟨V0,hV0e⟩:∃ V0,V0=a:=⟨_,rfl⟩
  rw [←hV0e] at hV0
  have HV0:=Lib.hid hV0
  have hVb:V0<128:=by omega
  have z1:¬(240:Int)≤a:=by omega
  have z2:¬(224:Int)≤a:=by omega
  have z3:¬(192:Int)≤a:=by omega
  have z4:¬(128:Int)≤a:=by omega
  subst hV0e
  clear q1 q2 q3 hV0 ha
  obtain ⟨M,hM⟩:∃ M,M=n-p:=⟨_,rfl⟩
  have HLM:Hid (L.length=M):=Lib.hid (by rw [hM];exact HLL.out)
  have hnp:IntKind.i64.wrap ((n:Int)-p)=(M:Int):=by rw [IntKind.wrap_i64];omega
  have hpm:p+M=n:=by omega
  have hpm2:(p:Int)+M≤1000000000:=by omega
  go_enter Tryz.func31,Tryz.ntmps31
  go_upto_region 17 with fail
  by_cases q:M<1
  ·have q1:(M:Int)<1:=by omega
   have HR:Hid (R=(0,0)):=Lib.hid (by rw [hRR,if_pos (.inr (by rw [HLM.out];exact q))])
   clear hRR hLl hM hpm hpm2 q
   go_wp2
   go_ret2
   exact ⟨by rw [HR.out];rfl,Below.refl _ _⟩
  have q1:¬(M:Int)<1:=by omega
  have hR1:=hRR
  rw [if_neg (show ¬(1=0∨L.length<1) by rw [HLM.out];omega)] at hR1
  have HR1:=Lib.hid hR1
  have hMN:1≤M:=by omega
  clear hRR hR1 hLl hM q
  go_wp2
  go_loop [8,9] (fun v8 v9=>∃ i v:Nat,((i=1∧v<128)∨(i=2∧v<8256)∨(i=3∧v<528448)∨(i=4∧v<33820736))∧i≤1∧v9 = .int .i64 i∧v8 = .int .i64 v∧Hid (rvF L i=v)) (fun _ v9=>5-(intOf v9).toNat)
  case atStart=>exact ⟨1,V0,by omega,by omega,rfl,rfl,HV0⟩
  case round=>
   obtain ⟨i,v,hv,hi,rfl,rfl,hrel⟩:=hrel
   by_cases hlt:i<1
   ·have hii:(i:Int)<1:=by omega
    have hci:=HCELL.out w (Below.refl _ _) i (by rw [HLM.out];omega)
    have hst:=rvF_succ L i (by omega)
    rw [hrel.out] at hst
    have hxb:=HB.out.at i
    obtain ⟨x,hx⟩:∃ x,x=L.getD i 0:=⟨_,rfl⟩
    rw [←hx] at hci hst hxb
    obtain ⟨j,hj⟩:∃ j,j=p+i:=⟨_,rfl⟩
    rw [←hj] at hci
    have hjs:IntKind.i64.wrap ((p:Int)+i)=(j:Int):=by rw [IntKind.wrap_i64];omega
    have hjn:(j:Int)<n:=by omega
    obtain ⟨u1,hu1⟩:∃ u1,u1=v*64:=⟨_,rfl⟩
    obtain ⟨u2,hu2⟩:∃ u2,u2=u1+x%64:=⟨_,rfl⟩
    have hw1:IntKind.i64.wrap ((v:Int)*64)=(u1:Int):=by rw [IntKind.wrap_i64];omega
    have hw2:IntKind.i64.wrap ((u1:Int)+(x:Int)%64)=(u2:Int):=by rw [IntKind.wrap_i64];omega
    have hvn:((i+1=1∧u2<128)∨(i+1=2∧u2<8256)∨(i+1=3∧u2<528448)∨(i+1=4∧u2<33820736)):=by omega
    have HVN:=Lib.hid hvn
    have HN2:Hid (rvF L (i+1)=u2):=Lib.hid (by rw [hst,hu2,hu1])
    clear hst hx hj hu1 hu2 hvn hv hrel
    go_wp2
    go_round
    case rel=>exact ⟨i+1,u2,HVN.out,by omega,by go_num,by go_num,HN2⟩
    case measure=>simp [intOf];omega
   ·obtain rfl:i=1:=by omega
    have HR2:=HR1.out
    rw [hrel.out] at HR2
    have HR2:=Lib.hid HR2
    have KS:=Lib.hid fun W=>rSign_any (v:Int) W
    have hvv:=valid_sign v
    rw [hvv] at KS
    clear hv hvv HR1 hrel
    by_cases hsg:isSign v
    ·rw [decide_eq_true hsg] at KS
     have KB:=rBytes_any v hsg w
     have HR3:=HR2.out
     rw [if_neg (by simpa using hsg)] at HR3
     have hel:=enc_le v
     unfold SlTo at KB
     obtain ⟨E,hE⟩:∃ E,E=enc v:=⟨_,rfl⟩
     rw [←hE] at KB HR3 hel
     obtain ⟨ev,hev⟩:∃ ev,ev=E.length:=⟨_,rfl⟩
     rw [←hev] at KB HR3 hel
     have KB:=Lib.hid KB
     have HEV:=Lib.hid hev
     have HR3:=Lib.hid HR3
     clear hE hsg HR2 hev
     by_cases hle:ev=1
     ·subst hle
      have HR4:Hid (R=if L.take 1≠E then (0,0) else (v,1)):=Lib.hid (by have:=HR3.out;rwa [if_neg (by simp)] at this)
      clear HR3 hel
      go_wp2_with (first
       | (go_at_call 61;(with_reducible refine (KS.out _).mono ?_);rintro e wq ⟨rfl,rfl⟩)
       | (go_at_call 30;(with_reducible refine KB.out.mono ?_);rintro e w2 ⟨a2,c2',rfl,hs2,hb2⟩;have HS2:=Lib.hid hs2;have HB2:=Lib.hid hb2;clear hs2 hb2))
      go_loopg [11] 1 (fun gh v11 wr=>∃ (k q:Nat),k≤1∧1-k≤gh∧v11 = .int .i64 (k:Nat)∧wr=w2.drewN q∧Hid (L.take k=E.take k))
      case atStart=>exact ⟨0,0,by omega,by omega,rfl,rfl,Lib.hid rfl⟩
      case round=>
       obtain ⟨k,q,hk,hgh,rfl,rfl,hrel⟩:=hrel
       by_cases hlt:k<1
       ·have hkk:(k:Int)<1:=by omega
        have e1:=HCELL.out w2 HB2.out k (by rw [HLM.out];omega)
        rcases HS2.out.src with h0 | ⟨b2,o2,rfl,hc2⟩
        ·rw [h0] at HEV;exact absurd HEV.out (by simp)
        have e2:=hc2 k (by rw [←HEV.out];exact hlt)
        have htk:=fun h=>take_eq_at (L:=L) (E:=E) (k:=k) (by rw [HLM.out];omega) (by rw [←HEV.out];exact hlt) hrel.out h
        have hneq:L.getD k 0≠E.getD k 0→L.take 1≠E:=fun hx he=>hx (by
         have:=congrArg (fun l=>List.getD l k 0) he
         simpa [List.getD,List.getElem?_take,hlt] using this)
        obtain ⟨x,hx⟩:∃ x,x=L.getD k 0:=⟨_,rfl⟩
        obtain ⟨y,hy⟩:∃ y,y=E.getD k 0:=⟨_,rfl⟩
        rw [←hx] at e1 htk hneq
        rw [←hy] at e2 htk hneq
        obtain ⟨j,hj⟩:∃ j,j=p+k:=⟨_,rfl⟩
        rw [←hj] at e1
        have hjs:IntKind.i64.wrap ((p:Int)+k)=(j:Int):=by rw [IntKind.wrap_i64];omega
        have hjn:(j:Int)<n:=by omega
        have HTK:=Lib.hid htk
        have HNE:=Lib.hid hneq
        obtain ⟨w3,hw3⟩:∃ w3,w3=w2.drewN q:=⟨_,rfl⟩
        have f1:w3.cell? ⟨b,off+j,none⟩=some (.int .u8 (x:Nat)):=by rw [hw3];exact e1
        have f2:w3.cell? ⟨b2,o2+k,none⟩=some (.int .u8 (y:Nat)):=by rw [hw3];exact e2
        rw [←hw3]
        have HW3:=Lib.hid hw3
        clear hx hy hj htk hneq hc2 hrel e1 e2 hw3
        by_cases hxy:x=y
        ·subst hxy
         have HT2:=Lib.hid (HTK.out rfl)
         go_wp2_with fail
         go_quiet (fail)
         go_wp2
         go_roundg (1-(k+1))
         case measure=>omega
         case rel=>exact ⟨k+1,q+nq,by omega,Nat.le_refl _,by go_num,by rw [HW3.out];exact World.drewN_drewN _ _ _,HT2⟩
        ·have hxy':¬(x:Int)=y:=by omega
         have HR5:Hid (R=(0,0)):=Lib.hid (by rw [HR4.out,if_pos (HNE.out hxy)])
         clear hxy
         go_wp2_with fail
         go_quiet (fail)
         go_wp2
         go_ret2
         exact ⟨by rw [HR5.out];rfl,by rw [HW3.out];exact below_drewN (below_drewN HB2.out _) _⟩
       ·obtain rfl:k=1:=by omega
        have HR5:Hid (R=(v,1)):=Lib.hid (by
         have:=hrel.out
         rw [List.take_of_length_le (l:=E) (by rw [←HEV.out];exact Nat.le_refl _)] at this
         rw [HR4.out,if_neg (by simp [this])])
        go_wp2
        go_ret2
        exact ⟨by rw [HR5.out];rfl,below_drewN HB2.out _⟩
     ·have hle':¬(ev:Int)=1:=by omega
      have HR4:Hid (R=(0,0)):=Lib.hid (by have:=HR3.out;rwa [if_pos hle] at this)
      clear hle
      go_wp2_with (first
       | (go_at_call 61;(with_reducible refine (KS.out _).mono ?_);rintro e wq ⟨rfl,rfl⟩)
       | (go_at_call 30;(with_reducible refine KB.out.mono ?_);rintro e w2 ⟨a2,c2',rfl,hs2,hb2⟩;have HB2:=Lib.hid hb2;clear hs2 hb2))
      go_ret2
      exact ⟨by rw [HR4.out];rfl,HB2.out⟩
    ·rw [decide_eq_false hsg] at KS
     have HR3:Hid (R=(0,0)):=Lib.hid (by have:=HR2.out;rwa [if_pos (by simpa using hsg)] at this)
     clear hsg
     go_wp2_with (go_at_call 61;(with_reducible refine (KS.out _).mono ?_);rintro e wq ⟨rfl,rfl⟩)
     go_ret2
     exact ⟨by rw [HR3.out];rfl,Below.refl _ _⟩
 ·have hV0:rvF L 1=rv0 a:=by rw [HAE.out];rfl
  rw [q2] at hV0
  rw [q1] at hRR
  obtain ⟨V0,hV0e⟩:∃ V0,V0=a-192:=⟨_,rfl⟩
  rw [←hV0e] at hV0
  have HV0:=Lib.hid hV0
  have hVb:V0<128:=by omega
  have hVc:(a:Int)-192=(V0:Int):=by omega
  have z1:¬(240:Int)≤a:=by omega
  have z2:¬(224:Int)≤a:=by omega
  have z3:(192:Int)≤a:=by omega
  clear q1 q2 q3 hV0 hV0e ha
  obtain ⟨M,hM⟩:∃ M,M=n-p:=⟨_,rfl⟩
  have HLM:Hid (L.length=M):=Lib.hid (by rw [hM];exact HLL.out)
  have hnp:IntKind.i64.wrap ((n:Int)-p)=(M:Int):=by rw [IntKind.wrap_i64];omega
  have hpm:p+M=n:=by omega
  have hpm2:(p:Int)+M≤1000000000:=by omega
  go_enter Tryz.func31,Tryz.ntmps31
  go_upto_region 17 with fail
  by_cases q:M<2
  ·have q1:(M:Int)<2:=by omega
   have HR:Hid (R=(0,0)):=Lib.hid (by rw [hRR,if_pos (.inr (by rw [HLM.out];exact q))])
   clear hRR hLl hM hpm hpm2 q
   go_wp2
   go_ret2
   exact ⟨by rw [HR.out];rfl,Below.refl _ _⟩
  have q1:¬(M:Int)<2:=by omega
  have hR1:=hRR
  rw [if_neg (show ¬(2=0∨L.length<2) by rw [HLM.out];omega)] at hR1
  have HR1:=Lib.hid hR1
  have hMN:2≤M:=by omega
  clear hRR hR1 hLl hM q
  go_wp2
  go_loop [8,9] (fun v8 v9=>∃ i v:Nat,((i=1∧v<128)∨(i=2∧v<8256)∨(i=3∧v<528448)∨(i=4∧v<33820736))∧i≤2∧v9 = .int .i64 i∧v8 = .int .i64 v∧Hid (rvF L i=v)) (fun _ v9=>5-(intOf v9).toNat)
  case atStart=>exact ⟨1,V0,by omega,by omega,rfl,rfl,HV0⟩
  case round=>
   obtain ⟨i,v,hv,hi,rfl,rfl,hrel⟩:=hrel
   by_cases hlt:i<2
   ·have hii:(i:Int)<2:=by omega
    have hci:=HCELL.out w (Below.refl _ _) i (by rw [HLM.out];omega)
    have hst:=rvF_succ L i (by omega)
    rw [hrel.out] at hst
    have hxb:=HB.out.at i
    obtain ⟨x,hx⟩:∃ x,x=L.getD i 0:=⟨_,rfl⟩
    rw [←hx] at hci hst hxb
    obtain ⟨j,hj⟩:∃ j,j=p+i:=⟨_,rfl⟩
    rw [←hj] at hci
    have hjs:IntKind.i64.wrap ((p:Int)+i)=(j:Int):=by rw [IntKind.wrap_i64];omega
    have hjn:(j:Int)<n:=by omega
    obtain ⟨u1,hu1⟩:∃ u1,u1=v*64:=⟨_,rfl⟩
    obtain ⟨u2,hu2⟩:∃ u2,u2=u1+x%64:=⟨_,rfl⟩
    have hw1:IntKind.i64.wrap ((v:Int)*64)=(u1:Int):=by rw [IntKind.wrap_i64];omega
    have hw2:IntKind.i64.wrap ((u1:Int)+(x:Int)%64)=(u2:Int):=by rw [IntKind.wrap_i64];omega
    have hvn:((i+1=1∧u2<128)∨(i+1=2∧u2<8256)∨(i+1=3∧u2<528448)∨(i+1=4∧u2<33820736)):=by omega
    have HVN:=Lib.hid hvn
    have HN2:Hid (rvF L (i+1)=u2):=Lib.hid (by rw [hst,hu2,hu1])
    clear hst hx hj hu1 hu2 hvn hv hrel
    go_wp2
    go_round
    case rel=>exact ⟨i+1,u2,HVN.out,by omega,by go_num,by go_num,HN2⟩
    case measure=>simp [intOf];omega
   ·obtain rfl:i=2:=by omega
    have HR2:=HR1.out
    rw [hrel.out] at HR2
    have HR2:=Lib.hid HR2
    have KS:=Lib.hid fun W=>rSign_any (v:Int) W
    have hvv:=valid_sign v
    rw [hvv] at KS
    clear hv hvv HR1 hrel
    by_cases hsg:isSign v
    ·rw [decide_eq_true hsg] at KS
     have KB:=rBytes_any v hsg w
     have HR3:=HR2.out
     rw [if_neg (by simpa using hsg)] at HR3
     have hel:=enc_le v
     unfold SlTo at KB
     obtain ⟨E,hE⟩:∃ E,E=enc v:=⟨_,rfl⟩
     rw [←hE] at KB HR3 hel
     obtain ⟨ev,hev⟩:∃ ev,ev=E.length:=⟨_,rfl⟩
     rw [←hev] at KB HR3 hel
     have KB:=Lib.hid KB
     have HEV:=Lib.hid hev
     have HR3:=Lib.hid HR3
     clear hE hsg HR2 hev
     by_cases hle:ev=2
     ·subst hle
      have HR4:Hid (R=if L.take 2≠E then (0,0) else (v,2)):=Lib.hid (by have:=HR3.out;rwa [if_neg (by simp)] at this)
      clear HR3 hel
      go_wp2_with (first
       | (go_at_call 61;(with_reducible refine (KS.out _).mono ?_);rintro e wq ⟨rfl,rfl⟩)
       | (go_at_call 30;(with_reducible refine KB.out.mono ?_);rintro e w2 ⟨a2,c2',rfl,hs2,hb2⟩;have HS2:=Lib.hid hs2;have HB2:=Lib.hid hb2;clear hs2 hb2))
      go_loopg [11] 2 (fun gh v11 wr=>∃ (k q:Nat),k≤2∧2-k≤gh∧v11 = .int .i64 (k:Nat)∧wr=w2.drewN q∧Hid (L.take k=E.take k))
      case atStart=>exact ⟨0,0,by omega,by omega,rfl,rfl,Lib.hid rfl⟩
      case round=>
       obtain ⟨k,q,hk,hgh,rfl,rfl,hrel⟩:=hrel
       by_cases hlt:k<2
       ·have hkk:(k:Int)<2:=by omega
        have e1:=HCELL.out w2 HB2.out k (by rw [HLM.out];omega)
        rcases HS2.out.src with h0 | ⟨b2,o2,rfl,hc2⟩
        ·rw [h0] at HEV;exact absurd HEV.out (by simp)
        have e2:=hc2 k (by rw [←HEV.out];exact hlt)
        have htk:=fun h=>take_eq_at (L:=L) (E:=E) (k:=k) (by rw [HLM.out];omega) (by rw [←HEV.out];exact hlt) hrel.out h
        have hneq:L.getD k 0≠E.getD k 0→L.take 2≠E:=fun hx he=>hx (by
         have:=congrArg (fun l=>List.getD l k 0) he
         simpa [List.getD,List.getElem?_take,hlt] using this)
        obtain ⟨x,hx⟩:∃ x,x=L.getD k 0:=⟨_,rfl⟩
        obtain ⟨y,hy⟩:∃ y,y=E.getD k 0:=⟨_,rfl⟩
        rw [←hx] at e1 htk hneq
        rw [←hy] at e2 htk hneq
        obtain ⟨j,hj⟩:∃ j,j=p+k:=⟨_,rfl⟩
        rw [←hj] at e1
        have hjs:IntKind.i64.wrap ((p:Int)+k)=(j:Int):=by rw [IntKind.wrap_i64];omega
        have hjn:(j:Int)<n:=by omega
        have HTK:=Lib.hid htk
        have HNE:=Lib.hid hneq
        obtain ⟨w3,hw3⟩:∃ w3,w3=w2.drewN q:=⟨_,rfl⟩
        have f1:w3.cell? ⟨b,off+j,none⟩=some (.int .u8 (x:Nat)):=by rw [hw3];exact e1
        have f2:w3.cell? ⟨b2,o2+k,none⟩=some (.int .u8 (y:Nat)):=by rw [hw3];exact e2
        rw [←hw3]
        have HW3:=Lib.hid hw3
        clear hx hy hj htk hneq hc2 hrel e1 e2 hw3
        by_cases hxy:x=y
        ·subst hxy
         have HT2:=Lib.hid (HTK.out rfl)
         go_wp2_with fail
         go_quiet (fail)
         go_wp2
         go_roundg (2-(k+1))
         case measure=>omega
         case rel=>exact ⟨k+1,q+nq,by omega,Nat.le_refl _,by go_num,by rw [HW3.out];exact World.drewN_drewN _ _ _,HT2⟩
        ·have hxy':¬(x:Int)=y:=by omega
         have HR5:Hid (R=(0,0)):=Lib.hid (by rw [HR4.out,if_pos (HNE.out hxy)])
         clear hxy
         go_wp2_with fail
         go_quiet (fail)
         go_wp2
         go_ret2
         exact ⟨by rw [HR5.out];rfl,by rw [HW3.out];exact below_drewN (below_drewN HB2.out _) _⟩
       ·obtain rfl:k=2:=by omega
        have HR5:Hid (R=(v,2)):=Lib.hid (by
         have:=hrel.out
         rw [List.take_of_length_le (l:=E) (by rw [←HEV.out];exact Nat.le_refl _)] at this
         rw [HR4.out,if_neg (by simp [this])])
        go_wp2
        go_ret2
        exact ⟨by rw [HR5.out];rfl,below_drewN HB2.out _⟩
     ·have hle':¬(ev:Int)=2:=by omega
      have HR4:Hid (R=(0,0)):=Lib.hid (by have:=HR3.out;rwa [if_pos hle] at this)
      clear hle
      go_wp2_with (first
       | (go_at_call 61;(with_reducible refine (KS.out _).mono ?_);rintro e wq ⟨rfl,rfl⟩)
       | (go_at_call 30;(with_reducible refine KB.out.mono ?_);rintro e w2 ⟨a2,c2',rfl,hs2,hb2⟩;have HB2:=Lib.hid hb2;clear hs2 hb2))
      go_ret2
      exact ⟨by rw [HR4.out];rfl,HB2.out⟩
    ·rw [decide_eq_false hsg] at KS
     have HR3:Hid (R=(0,0)):=Lib.hid (by have:=HR2.out;rwa [if_pos (by simpa using hsg)] at this)
     clear hsg
     go_wp2_with (go_at_call 61;(with_reducible refine (KS.out _).mono ?_);rintro e wq ⟨rfl,rfl⟩)
     go_ret2
     exact ⟨by rw [HR3.out];rfl,Below.refl _ _⟩
 ·have hV0:rvF L 1=rv0 a:=by rw [HAE.out];rfl
  rw [q2] at hV0
  rw [q1] at hRR
  obtain ⟨V0,hV0e⟩:∃ V0,V0=a-224:=⟨_,rfl⟩
  rw [←hV0e] at hV0
  have HV0:=Lib.hid hV0
  have hVb:V0<128:=by omega
  have hVc:(a:Int)-224=(V0:Int):=by omega
  have z1:¬(240:Int)≤a:=by omega
  have z2:(224:Int)≤a:=by omega
  clear q1 q2 q3 hV0 hV0e ha
  obtain ⟨M,hM⟩:∃ M,M=n-p:=⟨_,rfl⟩
  have HLM:Hid (L.length=M):=Lib.hid (by rw [hM];exact HLL.out)
  have hnp:IntKind.i64.wrap ((n:Int)-p)=(M:Int):=by rw [IntKind.wrap_i64];omega
  have hpm:p+M=n:=by omega
  have hpm2:(p:Int)+M≤1000000000:=by omega
  go_enter Tryz.func31,Tryz.ntmps31
  go_upto_region 17 with fail
  by_cases q:M<3
  ·have q1:(M:Int)<3:=by omega
   have HR:Hid (R=(0,0)):=Lib.hid (by rw [hRR,if_pos (.inr (by rw [HLM.out];exact q))])
   clear hRR hLl hM hpm hpm2 q
   go_wp2
   go_ret2
   exact ⟨by rw [HR.out];rfl,Below.refl _ _⟩
  have q1:¬(M:Int)<3:=by omega
  have hR1:=hRR
  rw [if_neg (show ¬(3=0∨L.length<3) by rw [HLM.out];omega)] at hR1
  have HR1:=Lib.hid hR1
  have hMN:3≤M:=by omega
  clear hRR hR1 hLl hM q
  go_wp2
  go_loop [8,9] (fun v8 v9=>∃ i v:Nat,((i=1∧v<128)∨(i=2∧v<8256)∨(i=3∧v<528448)∨(i=4∧v<33820736))∧i≤3∧v9 = .int .i64 i∧v8 = .int .i64 v∧Hid (rvF L i=v)) (fun _ v9=>5-(intOf v9).toNat)
  case atStart=>exact ⟨1,V0,by omega,by omega,rfl,rfl,HV0⟩
  case round=>
   obtain ⟨i,v,hv,hi,rfl,rfl,hrel⟩:=hrel
   by_cases hlt:i<3
   ·have hii:(i:Int)<3:=by omega
    have hci:=HCELL.out w (Below.refl _ _) i (by rw [HLM.out];omega)
    have hst:=rvF_succ L i (by omega)
    rw [hrel.out] at hst
    have hxb:=HB.out.at i
    obtain ⟨x,hx⟩:∃ x,x=L.getD i 0:=⟨_,rfl⟩
    rw [←hx] at hci hst hxb
    obtain ⟨j,hj⟩:∃ j,j=p+i:=⟨_,rfl⟩
    rw [←hj] at hci
    have hjs:IntKind.i64.wrap ((p:Int)+i)=(j:Int):=by rw [IntKind.wrap_i64];omega
    have hjn:(j:Int)<n:=by omega
    obtain ⟨u1,hu1⟩:∃ u1,u1=v*64:=⟨_,rfl⟩
    obtain ⟨u2,hu2⟩:∃ u2,u2=u1+x%64:=⟨_,rfl⟩
    have hw1:IntKind.i64.wrap ((v:Int)*64)=(u1:Int):=by rw [IntKind.wrap_i64];omega
    have hw2:IntKind.i64.wrap ((u1:Int)+(x:Int)%64)=(u2:Int):=by rw [IntKind.wrap_i64];omega
    have hvn:((i+1=1∧u2<128)∨(i+1=2∧u2<8256)∨(i+1=3∧u2<528448)∨(i+1=4∧u2<33820736)):=by omega
    have HVN:=Lib.hid hvn
    have HN2:Hid (rvF L (i+1)=u2):=Lib.hid (by rw [hst,hu2,hu1])
    clear hst hx hj hu1 hu2 hvn hv hrel
    go_wp2
    go_round
    case rel=>exact ⟨i+1,u2,HVN.out,by omega,by go_num,by go_num,HN2⟩
    case measure=>simp [intOf];omega
   ·obtain rfl:i=3:=by omega
    have HR2:=HR1.out
    rw [hrel.out] at HR2
    have HR2:=Lib.hid HR2
    have KS:=Lib.hid fun W=>rSign_any (v:Int) W
    have hvv:=valid_sign v
    rw [hvv] at KS
    clear hv hvv HR1 hrel
    by_cases hsg:isSign v
    ·rw [decide_eq_true hsg] at KS
     have KB:=rBytes_any v hsg w
     have HR3:=HR2.out
     rw [if_neg (by simpa using hsg)] at HR3
     have hel:=enc_le v
     unfold SlTo at KB
     obtain ⟨E,hE⟩:∃ E,E=enc v:=⟨_,rfl⟩
     rw [←hE] at KB HR3 hel
     obtain ⟨ev,hev⟩:∃ ev,ev=E.length:=⟨_,rfl⟩
     rw [←hev] at KB HR3 hel
     have KB:=Lib.hid KB
     have HEV:=Lib.hid hev
     have HR3:=Lib.hid HR3
     clear hE hsg HR2 hev
     by_cases hle:ev=3
     ·subst hle
      have HR4:Hid (R=if L.take 3≠E then (0,0) else (v,3)):=Lib.hid (by have:=HR3.out;rwa [if_neg (by simp)] at this)
      clear HR3 hel
      go_wp2_with (first
       | (go_at_call 61;(with_reducible refine (KS.out _).mono ?_);rintro e wq ⟨rfl,rfl⟩)
       | (go_at_call 30;(with_reducible refine KB.out.mono ?_);rintro e w2 ⟨a2,c2',rfl,hs2,hb2⟩;have HS2:=Lib.hid hs2;have HB2:=Lib.hid hb2;clear hs2 hb2))
      go_loopg [11] 3 (fun gh v11 wr=>∃ (k q:Nat),k≤3∧3-k≤gh∧v11 = .int .i64 (k:Nat)∧wr=w2.drewN q∧Hid (L.take k=E.take k))
      case atStart=>exact ⟨0,0,by omega,by omega,rfl,rfl,Lib.hid rfl⟩
      case round=>
       obtain ⟨k,q,hk,hgh,rfl,rfl,hrel⟩:=hrel
       by_cases hlt:k<3
       ·have hkk:(k:Int)<3:=by omega
        have e1:=HCELL.out w2 HB2.out k (by rw [HLM.out];omega)
        rcases HS2.out.src with h0 | ⟨b2,o2,rfl,hc2⟩
        ·rw [h0] at HEV;exact absurd HEV.out (by simp)
        have e2:=hc2 k (by rw [←HEV.out];exact hlt)
        have htk:=fun h=>take_eq_at (L:=L) (E:=E) (k:=k) (by rw [HLM.out];omega) (by rw [←HEV.out];exact hlt) hrel.out h
        have hneq:L.getD k 0≠E.getD k 0→L.take 3≠E:=fun hx he=>hx (by
         have:=congrArg (fun l=>List.getD l k 0) he
         simpa [List.getD,List.getElem?_take,hlt] using this)
        obtain ⟨x,hx⟩:∃ x,x=L.getD k 0:=⟨_,rfl⟩
        obtain ⟨y,hy⟩:∃ y,y=E.getD k 0:=⟨_,rfl⟩
        rw [←hx] at e1 htk hneq
        rw [←hy] at e2 htk hneq
        obtain ⟨j,hj⟩:∃ j,j=p+k:=⟨_,rfl⟩
        rw [←hj] at e1
        have hjs:IntKind.i64.wrap ((p:Int)+k)=(j:Int):=by rw [IntKind.wrap_i64];omega
        have hjn:(j:Int)<n:=by omega
        have HTK:=Lib.hid htk
        have HNE:=Lib.hid hneq
        obtain ⟨w3,hw3⟩:∃ w3,w3=w2.drewN q:=⟨_,rfl⟩
        have f1:w3.cell? ⟨b,off+j,none⟩=some (.int .u8 (x:Nat)):=by rw [hw3];exact e1
        have f2:w3.cell? ⟨b2,o2+k,none⟩=some (.int .u8 (y:Nat)):=by rw [hw3];exact e2
        rw [←hw3]
        have HW3:=Lib.hid hw3
        clear hx hy hj htk hneq hc2 hrel e1 e2 hw3
        by_cases hxy:x=y
        ·subst hxy
         have HT2:=Lib.hid (HTK.out rfl)
         go_wp2_with fail
         go_quiet (fail)
         go_wp2
         go_roundg (3-(k+1))
         case measure=>omega
         case rel=>exact ⟨k+1,q+nq,by omega,Nat.le_refl _,by go_num,by rw [HW3.out];exact World.drewN_drewN _ _ _,HT2⟩
        ·have hxy':¬(x:Int)=y:=by omega
         have HR5:Hid (R=(0,0)):=Lib.hid (by rw [HR4.out,if_pos (HNE.out hxy)])
         clear hxy
         go_wp2_with fail
         go_quiet (fail)
         go_wp2
         go_ret2
         exact ⟨by rw [HR5.out];rfl,by rw [HW3.out];exact below_drewN (below_drewN HB2.out _) _⟩
       ·obtain rfl:k=3:=by omega
        have HR5:Hid (R=(v,3)):=Lib.hid (by
         have:=hrel.out
         rw [List.take_of_length_le (l:=E) (by rw [←HEV.out];exact Nat.le_refl _)] at this
         rw [HR4.out,if_neg (by simp [this])])
        go_wp2
        go_ret2
        exact ⟨by rw [HR5.out];rfl,below_drewN HB2.out _⟩
     ·have hle':¬(ev:Int)=3:=by omega
      have HR4:Hid (R=(0,0)):=Lib.hid (by have:=HR3.out;rwa [if_pos hle] at this)
      clear hle
      go_wp2_with (first
       | (go_at_call 61;(with_reducible refine (KS.out _).mono ?_);rintro e wq ⟨rfl,rfl⟩)
       | (go_at_call 30;(with_reducible refine KB.out.mono ?_);rintro e w2 ⟨a2,c2',rfl,hs2,hb2⟩;have HB2:=Lib.hid hb2;clear hs2 hb2))
      go_ret2
      exact ⟨by rw [HR4.out];rfl,HB2.out⟩
    ·rw [decide_eq_false hsg] at KS
     have HR3:Hid (R=(0,0)):=Lib.hid (by have:=HR2.out;rwa [if_pos (by simpa using hsg)] at this)
     clear hsg
     go_wp2_with (go_at_call 61;(with_reducible refine (KS.out _).mono ?_);rintro e wq ⟨rfl,rfl⟩)
     go_ret2
     exact ⟨by rw [HR3.out];rfl,Below.refl _ _⟩
 ·have hV0:rvF L 1=rv0 a:=by rw [HAE.out];rfl
  rw [q2] at hV0
  rw [q1] at hRR
  obtain ⟨V0,hV0e⟩:∃ V0,V0=a-240:=⟨_,rfl⟩
  rw [←hV0e] at hV0
  have HV0:=Lib.hid hV0
  have hVb:V0<128:=by omega
  have hVc:(a:Int)-240=(V0:Int):=by omega
  have z1:(240:Int)≤a:=by omega
  clear q1 q2 q3 hV0 hV0e ha
  obtain ⟨M,hM⟩:∃ M,M=n-p:=⟨_,rfl⟩
  have HLM:Hid (L.length=M):=Lib.hid (by rw [hM];exact HLL.out)
  have hnp:IntKind.i64.wrap ((n:Int)-p)=(M:Int):=by rw [IntKind.wrap_i64];omega
  have hpm:p+M=n:=by omega
  have hpm2:(p:Int)+M≤1000000000:=by omega
  go_enter Tryz.func31,Tryz.ntmps31
  go_upto_region 17 with fail
  by_cases q:M<4
  ·have q1:(M:Int)<4:=by omega
   have HR:Hid (R=(0,0)):=Lib.hid (by rw [hRR,if_pos (.inr (by rw [HLM.out];exact q))])
   clear hRR hLl hM hpm hpm2 q
   go_wp2
   go_ret2
   exact ⟨by rw [HR.out];rfl,Below.refl _ _⟩
  have q1:¬(M:Int)<4:=by omega
  have hR1:=hRR
  rw [if_neg (show ¬(4=0∨L.length<4) by rw [HLM.out];omega)] at hR1
  have HR1:=Lib.hid hR1
  have hMN:4≤M:=by omega
  clear hRR hR1 hLl hM q
  go_wp2
  go_loop [8,9] (fun v8 v9=>∃ i v:Nat,((i=1∧v<128)∨(i=2∧v<8256)∨(i=3∧v<528448)∨(i=4∧v<33820736))∧i≤4∧v9 = .int .i64 i∧v8 = .int .i64 v∧Hid (rvF L i=v)) (fun _ v9=>5-(intOf v9).toNat)
  case atStart=>exact ⟨1,V0,by omega,by omega,rfl,rfl,HV0⟩
  case round=>
   obtain ⟨i,v,hv,hi,rfl,rfl,hrel⟩:=hrel
   by_cases hlt:i<4
   ·have hii:(i:Int)<4:=by omega
    have hci:=HCELL.out w (Below.refl _ _) i (by rw [HLM.out];omega)
    have hst:=rvF_succ L i (by omega)
    rw [hrel.out] at hst
    have hxb:=HB.out.at i
    obtain ⟨x,hx⟩:∃ x,x=L.getD i 0:=⟨_,rfl⟩
    rw [←hx] at hci hst hxb
    obtain ⟨j,hj⟩:∃ j,j=p+i:=⟨_,rfl⟩
    rw [←hj] at hci
    have hjs:IntKind.i64.wrap ((p:Int)+i)=(j:Int):=by rw [IntKind.wrap_i64];omega
    have hjn:(j:Int)<n:=by omega
    obtain ⟨u1,hu1⟩:∃ u1,u1=v*64:=⟨_,rfl⟩
    obtain ⟨u2,hu2⟩:∃ u2,u2=u1+x%64:=⟨_,rfl⟩
    have hw1:IntKind.i64.wrap ((v:Int)*64)=(u1:Int):=by rw [IntKind.wrap_i64];omega
    have hw2:IntKind.i64.wrap ((u1:Int)+(x:Int)%64)=(u2:Int):=by rw [IntKind.wrap_i64];omega
    have hvn:((i+1=1∧u2<128)∨(i+1=2∧u2<8256)∨(i+1=3∧u2<528448)∨(i+1=4∧u2<33820736)):=by omega
    have HVN:=Lib.hid hvn
    have HN2:Hid (rvF L (i+1)=u2):=Lib.hid (by rw [hst,hu2,hu1])
    clear hst hx hj hu1 hu2 hvn hv hrel
    go_wp2
    go_round
    case rel=>exact ⟨i+1,u2,HVN.out,by omega,by go_num,by go_num,HN2⟩
    case measure=>simp [intOf];omega
   ·obtain rfl:i=4:=by omega
    have HR2:=HR1.out
    rw [hrel.out] at HR2
    have HR2:=Lib.hid HR2
    have KS:=Lib.hid fun W=>rSign_any (v:Int) W
    have hvv:=valid_sign v
    rw [hvv] at KS
    clear hv hvv HR1 hrel
    by_cases hsg:isSign v
    ·rw [decide_eq_true hsg] at KS
     have KB:=rBytes_any v hsg w
     have HR3:=HR2.out
     rw [if_neg (by simpa using hsg)] at HR3
     have hel:=enc_le v
     unfold SlTo at KB
     obtain ⟨E,hE⟩:∃ E,E=enc v:=⟨_,rfl⟩
     rw [←hE] at KB HR3 hel
     obtain ⟨ev,hev⟩:∃ ev,ev=E.length:=⟨_,rfl⟩
     rw [←hev] at KB HR3 hel
     have KB:=Lib.hid KB
     have HEV:=Lib.hid hev
     have HR3:=Lib.hid HR3
     clear hE hsg HR2 hev
     by_cases hle:ev=4
     ·subst hle
      have HR4:Hid (R=if L.take 4≠E then (0,0) else (v,4)):=Lib.hid (by have:=HR3.out;rwa [if_neg (by simp)] at this)
      clear HR3 hel
      go_wp2_with (first
       | (go_at_call 61;(with_reducible refine (KS.out _).mono ?_);rintro e wq ⟨rfl,rfl⟩)
       | (go_at_call 30;(with_reducible refine KB.out.mono ?_);rintro e w2 ⟨a2,c2',rfl,hs2,hb2⟩;have HS2:=Lib.hid hs2;have HB2:=Lib.hid hb2;clear hs2 hb2))
      go_loopg [11] 4 (fun gh v11 wr=>∃ (k q:Nat),k≤4∧4-k≤gh∧v11 = .int .i64 (k:Nat)∧wr=w2.drewN q∧Hid (L.take k=E.take k))
      case atStart=>exact ⟨0,0,by omega,by omega,rfl,rfl,Lib.hid rfl⟩
      case round=>
       obtain ⟨k,q,hk,hgh,rfl,rfl,hrel⟩:=hrel
       by_cases hlt:k<4
       ·have hkk:(k:Int)<4:=by omega
        have e1:=HCELL.out w2 HB2.out k (by rw [HLM.out];omega)
        rcases HS2.out.src with h0 | ⟨b2,o2,rfl,hc2⟩
        ·rw [h0] at HEV;exact absurd HEV.out (by simp)
        have e2:=hc2 k (by rw [←HEV.out];exact hlt)
        have htk:=fun h=>take_eq_at (L:=L) (E:=E) (k:=k) (by rw [HLM.out];omega) (by rw [←HEV.out];exact hlt) hrel.out h
        have hneq:L.getD k 0≠E.getD k 0→L.take 4≠E:=fun hx he=>hx (by
         have:=congrArg (fun l=>List.getD l k 0) he
         simpa [List.getD,List.getElem?_take,hlt] using this)
        obtain ⟨x,hx⟩:∃ x,x=L.getD k 0:=⟨_,rfl⟩
        obtain ⟨y,hy⟩:∃ y,y=E.getD k 0:=⟨_,rfl⟩
        rw [←hx] at e1 htk hneq
        rw [←hy] at e2 htk hneq
        obtain ⟨j,hj⟩:∃ j,j=p+k:=⟨_,rfl⟩
        rw [←hj] at e1
        have hjs:IntKind.i64.wrap ((p:Int)+k)=(j:Int):=by rw [IntKind.wrap_i64];omega
        have hjn:(j:Int)<n:=by omega
        have HTK:=Lib.hid htk
        have HNE:=Lib.hid hneq
        obtain ⟨w3,hw3⟩:∃ w3,w3=w2.drewN q:=⟨_,rfl⟩
        have f1:w3.cell? ⟨b,off+j,none⟩=some (.int .u8 (x:Nat)):=by rw [hw3];exact e1
        have f2:w3.cell? ⟨b2,o2+k,none⟩=some (.int .u8 (y:Nat)):=by rw [hw3];exact e2
        rw [←hw3]
        have HW3:=Lib.hid hw3
        clear hx hy hj htk hneq hc2 hrel e1 e2 hw3
        by_cases hxy:x=y
        ·subst hxy
         have HT2:=Lib.hid (HTK.out rfl)
         go_wp2_with fail
         go_quiet (fail)
         go_wp2
         go_roundg (4-(k+1))
         case measure=>omega
         case rel=>exact ⟨k+1,q+nq,by omega,Nat.le_refl _,by go_num,by rw [HW3.out];exact World.drewN_drewN _ _ _,HT2⟩
        ·have hxy':¬(x:Int)=y:=by omega
         have HR5:Hid (R=(0,0)):=Lib.hid (by rw [HR4.out,if_pos (HNE.out hxy)])
         clear hxy
         go_wp2_with fail
         go_quiet (fail)
         go_wp2
         go_ret2
         exact ⟨by rw [HR5.out];rfl,by rw [HW3.out];exact below_drewN (below_drewN HB2.out _) _⟩
       ·obtain rfl:k=4:=by omega
        have HR5:Hid (R=(v,4)):=Lib.hid (by
         have:=hrel.out
         rw [List.take_of_length_le (l:=E) (by rw [←HEV.out];exact Nat.le_refl _)] at this
         rw [HR4.out,if_neg (by simp [this])])
        go_wp2
        go_ret2
        exact ⟨by rw [HR5.out];rfl,below_drewN HB2.out _⟩
     ·have hle':¬(ev:Int)=4:=by omega
      have HR4:Hid (R=(0,0)):=Lib.hid (by have:=HR3.out;rwa [if_pos hle] at this)
      clear hle
      go_wp2_with (first
       | (go_at_call 61;(with_reducible refine (KS.out _).mono ?_);rintro e wq ⟨rfl,rfl⟩)
       | (go_at_call 30;(with_reducible refine KB.out.mono ?_);rintro e w2 ⟨a2,c2',rfl,hs2,hb2⟩;have HB2:=Lib.hid hb2;clear hs2 hb2))
      go_ret2
      exact ⟨by rw [HR4.out];rfl,HB2.out⟩
    ·rw [decide_eq_false hsg] at KS
     have HR3:Hid (R=(0,0)):=Lib.hid (by have:=HR2.out;rwa [if_pos (by simpa using hsg)] at this)
     clear hsg
     go_wp2_with (go_at_call 61;(with_reducible refine (KS.out _).mono ?_);rintro e wq ⟨rfl,rfl⟩)
     go_ret2
     exact ⟨by rw [HR3.out];rfl,Below.refl _ _⟩
def ends:Bool→List Nat→Nat
 | _,[]=>0
 | p,x::t=>(if x=13∨(x=10∧p=false) then 1 else 0)+ends (decide (x=13)) t
def tens (l:List Nat):Nat:=l.count 10
theorem tens_cons (x:Nat) (t:List Nat):tens (x::t)=(if x=10 then 1 else 0)+tens t:=by
 unfold tens
 rw [List.count_cons]
 by_cases h:x=10
 ·simp [h,Nat.add_comm]
 ·simp [h]
theorem lin_tens:∀ (b:List Nat) (p:Bool),tens (lin p b)=ends p b
 | [],p=>by cases p <;> rfl
 | x::t,p=>by
  unfold lin ends
  by_cases h:x=10∧p=true
  ·obtain ⟨rfl,rfl⟩:=h
   simp [lin_tens t]
  ·rw [if_neg h,tens_cons,lin_tens t]
   congr 1
   by_cases h1:x=13
   ·simp [h1]
   ·by_cases h2:x=10
    ·have h3:p=false:=by cases p with
      | true=>exact absurd ⟨h2,rfl⟩ h
      | false=>rfl
     simp [h2,h3]
    ·simp [h1,h2]
theorem lin_no13:∀ (b:List Nat) (p:Bool),∀ x∈lin p b,x≠13
 | [],p,x,h=>by cases p <;> simp [lin] at h
 | y::t,p,x,h=>by
  unfold lin at h
  split at h
  ·exact lin_no13 t _ x h
  ·rcases List.mem_cons.1 h with h | h
   ·subst h;split <;> omega
   ·exact lin_no13 t _ x h
theorem lin_same:∀ (l:List Nat),(∀ x∈l,x≠13)→lin false l=l
 | [],_=>rfl
 | x::t,h=>by
  have hx:x≠13:=h x (by simp)
  unfold lin
  rw [if_neg (by simp),if_neg hx,decide_eq_false hx,lin_same t fun y hy=>h y (by simp [hy])]
theorem lin_len (s:List Nat):(lin false s).length≤s.length:=by rw [←lin_r,r2_len];exact r1_len s
theorem lin_bs {s:List Nat} (h:Bs s):Bs (lin false s):=by rw [←lin_r];exact r2_bs (r1_bs h)
theorem ends_drop {b:List Nat} {k:Nat} (h:k<b.length) (p:Bool):ends p (b.drop k)=(if b.getD k 0=13∨(b.getD k 0=10∧p=false) then 1 else 0)+ends (decide (b.getD k 0=13)) (b.drop (k+1)):=by
 rw [List.drop_eq_getElem_cons h,ends]
 simp [List.getD,h]
theorem tens_drop {l:List Nat} {k:Nat} (h:k<l.length):tens (l.drop k)=(if l.getD k 0=10 then 1 else 0)+tens (l.drop (k+1)):=by
 rw [List.drop_eq_getElem_cons h,tens_cons]
 simp [List.getD,h]
def prv (b:List Nat) (k:Nat):Bool:=decide (0<k∧b.getD (k-1) 0=13)
theorem prv_succ (b:List Nat) (k:Nat):prv b (k+1)=decide (b.getD k 0=13):=by simp [prv]
theorem ends_le:∀ (b:List Nat) (p:Bool),ends p b≤b.length
 | [],p=>by cases p <;> simp [ends]
 | x::t,p=>by
  unfold ends
  have:=ends_le t (decide (x=13))
  simp only [List.length_cons]
  split <;> omega
set_option maxHeartbeats 3200000 in
theorem rCheck_any (ao:Option Addr) (c:Nat) (xs:List Nat) (w:World) (h:Sl w ao c xs) (hm:xs.length≤1000000000) :
  Calls Tryz.prog 16 #[.slice ao xs.length c] w fun e w'=>e = .returned (.tuple #[.int .i64 ((alA charP xs).1:Nat),.bool (alA charP xs).2])∧Below w.heap.size w w':=by
 have HK:=Lib.hid fun (W:World) (hW:Below w.heap.size w W) (k:Nat)=>rNext_any ao c xs k W (h.below hW) hm
 have hb:=Lib.hid h.bs
 clear h
 obtain ⟨A,hA⟩:∃ A,A=al charP xs 0:=⟨_,rfl⟩
 have HR:Hid (alA charP xs=alR A):=Lib.hid (by rw [hA];rfl)
 obtain ⟨R,hR⟩:∃ R,R=alA charP xs:=⟨_,rfl⟩
 rw [←hR] at HR ⊢
 have HA:=Lib.hid hA
 clear hA hR
 go_enter Tryz.func16,Tryz.ntmps16
 go_wp2
 go_loopw [4] (fun vi wr=>∃ k:Nat,k≤xs.length∧vi = .int .i64 k∧Below w.heap.size w wr∧Hid (A=al charP (xs.drop k) k)) (fun vi _=>xs.length-(intOf vi).toNat)
 case atStart=>exact ⟨0,Nat.zero_le _,rfl,Below.refl _ _,Lib.hid (by rw [HA.out];rfl)⟩
 case round=>
  obtain ⟨k,hk,rfl,hbw,hrel⟩:=hrel
  have HB:=Lib.hid hbw
  clear hbw
  by_cases hlt:k<xs.length
  ·have hkk:(k:Int)<xs.length:=by omega
   have hne:xs.drop k≠[]:=by intro e;have:=congrArg List.length e;rw [List.length_drop,List.length_nil] at this;omega
   have hst:=Lib.hid (hrel.out.trans (al_step charP hne k))
   have hn4:=nx_le4 (xs.drop k) (hb.out.drop k)
   rw [List.length_drop] at hn4
   have K:=HK.out wr HB.out k
   rw [nxF_nat] at K
   obtain ⟨v,n,hvn⟩:∃ v n,nx (xs.drop k)=(v,n):=⟨_,_,rfl⟩
   rw [hvn] at hn4 hst K
   simp only at hn4 hst K
   have K:=Lib.hid K
   have HN4:=Lib.hid hn4
   clear hne hvn hrel hn4
   by_cases c1:n=0
   ·subst c1
    have HR2:Hid (R=(k,false)):=Lib.hid (by rw [HR.out,hst.out,if_pos (.inl rfl)];rfl)
    go_wp2_with (go_at_call 31;(with_reducible refine K.out.mono ?_);rintro e w1 ⟨rfl,hb1⟩;have HB1:=Lib.hid (HB.out.trans (hb1.mono HB.out.size));clear hb1)
    go_ret2
    exact ⟨by rw [HR2.out];rfl,HB1.out⟩
   ·have c1':¬(n:Int)=0:=by omega
    obtain ⟨z,hz⟩:∃ z,z=charP v:=⟨_,rfl⟩
    have HG:=Lib.hid fun W=>rChar_any (v:Int) W
    rw [show wth charL (v:Int)=z from hz.symm] at HG
    rw [←hz] at hst
    clear hz
    cases z with
    | false=>
     have HR2:Hid (R=(k,false)):=Lib.hid (by rw [HR.out,hst.out,if_pos (.inr rfl)];rfl)
     clear c1
     go_wp2_with (first
      | (go_at_call 31;(with_reducible refine K.out.mono ?_);rintro e w1 ⟨rfl,hb1⟩;have HB1:=Lib.hid (HB.out.trans (hb1.mono HB.out.size));clear hb1)
      | (go_at_call 32;(with_reducible refine (HG.out _).mono ?_);rintro e w2 ⟨rfl,rfl⟩))
     go_ret2
     exact ⟨by rw [HR2.out];rfl,HB1.out⟩
    | true=>
     have HR2:Hid (A=al charP (xs.drop (k+n)) (k+n)):=Lib.hid (by rw [hst.out,if_neg (by simp [c1]),List.drop_drop])
     have hpos:0<n:=by omega
     clear c1
     have hw:=HN4.out
     have hsum:IntKind.i64.wrap ((k:Int)+n)=((k+n:Nat):Int):=by rw [IntKind.wrap_i64];omega
     obtain ⟨s,hs⟩:∃ s,s=k+n:=⟨_,rfl⟩
     have hsm:s≤xs.length:=by omega
     have hsk:k<s:=by omega
     rw [←hs] at hsum HR2
     clear hs hw hpos
     go_wp2_with (first
      | (go_at_call 31;(with_reducible refine K.out.mono ?_);rintro e w1 ⟨rfl,hb1⟩;have HB1:=Lib.hid (HB.out.trans (hb1.mono HB.out.size));clear hb1)
      | (go_at_call 32;(with_reducible refine (HG.out _).mono ?_);rintro e w2 ⟨rfl,rfl⟩))
     refine ⟨⟨s,hsm,rfl,HB1.out,HR2⟩,?_⟩
     simp [intOf];omega
  ·obtain rfl:k=xs.length:=by omega
   have HR2:Hid (R=(0,true)):=Lib.hid (by rw [HR.out,hrel.out,List.drop_length];rfl)
   go_wp2
   go_ret2
   exact ⟨by rw [HR2.out];rfl,HB.out⟩
theorem alA_none (p:Nat→Bool) (xs:List Nat):(alA p xs).2=(al p xs 0).isNone:=by
 unfold alA;cases al p xs 0 <;> rfl
theorem al_shift (p:Nat→Bool):∀ (n:Nat) (L:List Nat),L.length≤n→∀ j k,(al p L j).isNone=(al p L k).isNone:=by
 intro n
 induction n with
 | zero=>
  intro L h j k
  have e:L=[]:=List.eq_nil_of_length_eq_zero (by omega)
  subst e;rfl
 | succ n ih=>
  intro L h j k
  by_cases hne:L=[]
  ·subst hne;rfl
  rw [al_step p hne,al_step p hne]
  by_cases c:(nx L).2=0∨p (nx L).1=false
  ·rw [if_pos c,if_pos c];rfl
  ·rw [if_neg c,if_neg c]
   have hl:=List.length_pos_iff.2 hne
   exact ih _ (by rw [List.length_drop];omega) _ _
theorem nameP_step {xs:List Nat} (h1:(nx xs).2≠0) (h2:begP (nx xs).1=true):nameP xs=(al goP (xs.drop (nx xs).2) (nx xs).2).isNone:=by
 unfold nameP
 rw [if_neg (fun h=>by
             rcases h with h | h;· exact h1 h
             rw [h2] at h;cases h),alA_none]
 exact al_shift goP _ _ (Nat.le_refl _) _ _
theorem beg_go {v:Nat} (h:begP v=true):goP v=true:=by
 unfold goP goesP
 rw [show wth beginsL (v:Int)=true from h]
 rfl
theorem copy_any (ao:Option Addr) (c:Nat) (xs:List Nat) (w:World) (h:Sl w ao c xs) (hm:xs.length≤1000000) :
  Calls Tryz.prog 9 #[.slice ao xs.length c] w (OwnB xs w):=by
 have HCA:=Lib.hid (h.below (lit_below w (.cells #[] 5))).cells
 clear h
 go_enter Tryz.func9,Tryz.ntmps9
 go_wp2_with (at_builtin;refine wpList_append_x at22 rfl (.tmp 5) (.tmp 6) rfl w.heap.size (.slice (some ⟨w.heap.size,0,none⟩) 0 0) (.slice ao xs.length c) 0 xs.length [] (u8s xs) rfl rfl (own_empty w 5 1) HCA.out (by rw [u8s_len,Nat.mul_one]) (u8s_one xs) (by simp) (by omega) (by omega) ?_;intro a2 c2 w2 hA;have HA:=Lib.hid hA;clear hA)
 go_ret
 have hA:=HA.out
 rw [Nat.zero_add,List.nil_append] at hA
 exact ⟨a2,c2,rfl,hA.own,(lit_below w _).trans (hA.below (own_empty w 5 1) (by simp))⟩
theorem lin_drop {b:List Nat} {k:Nat} (h:k<b.length) (p:Bool):lin p (b.drop k)=if b.getD k 0=10∧p=true then lin false (b.drop (k+1)) else (if b.getD k 0=13 then 10 else b.getD k 0)::lin (decide (b.getD k 0=13)) (b.drop (k+1)):=by
 rw [List.drop_eq_getElem_cons h,lin]
 simp [List.getD,h]
theorem lin_le:∀ (b:List Nat) (p:Bool),(lin p b).length≤b.length
 | [],p=>by cases p <;> simp [lin]
 | x::t,p=>by
  unfold lin
  split
  ·have:=lin_le t false;simp only [List.length_cons];omega
  ·have:=lin_le t (decide (x=13));simp only [List.length_cons];omega
set_option maxHeartbeats 6400000 in
theorem rLines_any (ao:Option Addr) (c:Nat) (xs:List Nat) (w:World) (h:Sl w ao c xs) (hm:xs.length≤1000000) :
  Calls Tryz.prog 24 #[.slice ao xs.length c] w (SlTo (lin false xs) w):=by
 have HS:=Lib.hid h
 have hlb:=lin_bs h.bs
 have hll:=lin_len xs
 obtain ⟨R,hR⟩:∃ R,R=lin false xs:=⟨_,rfl⟩
 have HR:=Lib.hid hR
 rw [←hR] at hlb hll ⊢
 have HLB:=Lib.hid hlb
 obtain ⟨n,hn⟩:∃ n,n=xs.length:=⟨_,rfl⟩
 have HN:=Lib.hid hn
 rw [←hn] at hm hll ⊢
 clear h hR hlb hn
 have HO0:=Lib.hid (own_empty w 5 1)
 have HB0:=Lib.hid (lit_below w (.cells #[] 5))
 go_enter Tryz.func24,Tryz.ntmps24
 go_wp2
 go_loopw [3,4] (fun v3 v4 wr=>∃ (k:Nat) (a:Option Addr) (c':Nat) (out:List Nat),k≤n∧v4 = .int .i64 k∧v3 = .slice a out.length c'∧out.length≤k∧Hid (out++lin (prv xs k) (xs.drop k)=R)∧wr.ownsRow w.heap.size 5 1 (.slice a out.length c') out.length (u8s out)∧Below w.heap.size w wr) (fun _ v4 _=>n-(intOf v4).toNat)
 case atStart=>exact ⟨0,_,0,[],Nat.zero_le _,rfl,rfl,Nat.zero_le _,Lib.hid (by rw [HR.out];rfl),HO0.out,HB0.out⟩
 case round=>
  clear HO0 HB0
  obtain ⟨k,a,c',out,hk,rfl,rfl,hok,hrel,hown,hbw⟩:=hrel
  have HO:=Lib.hid hown
  have HB:=Lib.hid hbw
  clear hown hbw
  by_cases hlt:k<n
  ·have hkk:(k:Int)<n:=by omega
   have hkx:k<xs.length:=by rw [←HN.out];exact hlt
   rcases (HS.out.below HB.out).src with h0 | ⟨b,off,rfl,hc⟩
   ·rw [h0] at hkx;simp at hkx
   have hcell:=hc k hkx
   have HC:=Lib.hid hc
   have hbx:=HS.out.bs.at k
   have hst:=hrel.out
   rw [lin_drop hkx,←prv_succ] at hst
   obtain ⟨x,hx⟩:∃ x,x=xs.getD k 0:=⟨_,rfl⟩
   rw [←hx] at hcell hst hbx
   obtain ⟨m,hmo⟩:∃ m,m=out.length:=⟨_,rfl⟩
   rw [←hmo] at hok HO ⊢
   have HMO:=Lib.hid hmo
   have hz:=HB.out.size
   have HST:=Lib.hid hst
   have HPX:Hid (prv xs (k+1)=decide (x=13)):=Lib.hid (by rw [prv_succ,hx])
   clear hc hrel hst hx hmo
   have APP:Hid (∀ (y:Nat) (a2:Option Addr) (c2:Nat) (w2:World),Apd (wr.alloc (.cells #[.int .u8 (y:Nat)] 5)) w.heap.size 5 1 (.slice a m c') (m+1) (u8s out++[.int .u8 (y:Nat)]) (.slice a2 (m+1) c2) w2→
     w2.ownsRow w.heap.size 5 1 (.slice a2 (out++[y]).length c2) (out++[y]).length (u8s (out++[y]))∧Below w.heap.size w w2):=Lib.hid fun y a2 c2 w2 hA=>by
    have hA2:=hA.alloc
    refine ⟨?_,HB.out.trans (hA2.below HO.out hz)⟩
    rw [List.length_append,←HMO.out,←u8s_app]
    exact hA2.own
   by_cases c13:x=13
   ·subst c13
    have HR2:Hid ((out++[10])++lin (prv xs (k+1)) (xs.drop (k+1))=R):=Lib.hid (by rw [←HST.out,if_neg (by simp),if_pos rfl];simp)
    go_wp2_with (at_builtin;refine wpList_append_x at22 rfl (.tmp 34) (.tmp 35) rfl w.heap.size (.slice a m c') _ m 1 (u8s out) [.int .u8 10] rfl rfl (ownsRow_below HO.out ((Below.refl _ _).alloc (Nat.le_refl _) _)) (cells_one _ _ _) rfl (by intro u hu;rw [List.mem_singleton] at hu;subst hu;rfl) (by rw [alloc_size];omega) (by omega) (by omega) ?_;intro a2 c2 w2 hA;have HA:=Lib.hid (APP.out 10 a2 c2 w2 hA);clear hA)
    refine ⟨⟨k+1,a2,c2,out++[10],by omega,by go_num,by rw [List.length_append,←HMO.out];rfl,by rw [List.length_append,←HMO.out];simp;omega,HR2,HA.out.1,HA.out.2⟩,?_⟩
    simp [intOf];omega
   ·have c13':¬(x:Int)=13:=by omega
    by_cases c10:x=10
    ·subst c10
     by_cases ck:k=0
     ·subst ck
      rw [Nat.add_zero] at hcell
      have HR2:Hid ((out++[10])++lin (prv xs (0+1)) (xs.drop (0+1))=R):=Lib.hid (by rw [←HST.out,if_neg (by simp [prv]),if_neg (by decide)];simp)
      go_wp2_with (at_builtin;refine wpList_append_x at22 rfl (.tmp 37) (.tmp 42) rfl w.heap.size (.slice a m c') _ m 1 (u8s out) [.int .u8 10] rfl rfl (ownsRow_below HO.out ((Below.refl _ _).alloc (Nat.le_refl _) _)) (cells_one _ _ _) rfl (by intro u hu;rw [List.mem_singleton] at hu;subst hu;rfl) (by rw [alloc_size];omega) (by omega) (by omega) ?_;intro a2 c2 w2 hA;have HA:=Lib.hid (APP.out 10 a2 c2 w2 hA);clear hA)
      refine ⟨⟨0+1,a2,c2,out++[10],by omega,by go_num,by rw [List.length_append,←HMO.out];rfl,by rw [List.length_append,←HMO.out];simp;omega,HR2,HA.out.1,HA.out.2⟩,?_⟩
      simp [intOf];omega
     ·have ck':¬(k:Int)=0:=by omega
      have ck2:(0:Int)<k:=by omega
      obtain ⟨j,hj⟩:∃ j,k=j+1:=⟨k-1,by omega⟩
      have hcj:=HC.out j (by omega)
      have hpr:prv xs k=decide (xs.getD j 0=13):=by rw [hj,prv_succ]
      have hsub:IntKind.i64.wrap ((k:Int)-1)=(j:Int):=by rw [IntKind.wrap_i64];omega
      obtain ⟨y,hy⟩:∃ y,y=xs.getD j 0:=⟨_,rfl⟩
      rw [←hy] at hcj hpr
      have HPR:=Lib.hid hpr
      have hjn:j<n:=by omega
      clear hj hy hpr ck
      by_cases cy:y=13
      ·subst cy
       have HR2:Hid (out++lin (prv xs (k+1)) (xs.drop (k+1))=R):=Lib.hid (by rw [←HST.out,HPR.out,if_pos (by simp),HPX.out];rfl)
       go_wp2
       refine ⟨⟨k+1,a,c',out,by omega,by go_num,by rw [←HMO.out],by rw [←HMO.out];omega,HR2,by rw [←HMO.out];exact HO.out,HB.out⟩,?_⟩
       simp [intOf];omega
      ·have cy':¬(y:Int)=13:=by omega
       have HR2:Hid ((out++[10])++lin (prv xs (k+1)) (xs.drop (k+1))=R):=Lib.hid (by rw [←HST.out,HPR.out,if_neg (by simp [cy]),if_neg (by decide)];simp)
       go_wp2_with (at_builtin;refine wpList_append_x at22 rfl (.tmp 37) (.tmp 42) rfl w.heap.size (.slice a m c') _ m 1 (u8s out) [.int .u8 10] rfl rfl (ownsRow_below HO.out ((Below.refl _ _).alloc (Nat.le_refl _) _)) (cells_one _ _ _) rfl (by intro u hu;rw [List.mem_singleton] at hu;subst hu;rfl) (by rw [alloc_size];omega) (by omega) (by omega) ?_;intro a2 c2 w2 hA;have HA:=Lib.hid (APP.out 10 a2 c2 w2 hA);clear hA)
       refine ⟨⟨k+1,a2,c2,out++[10],by omega,by go_num,by rw [List.length_append,←HMO.out];rfl,by rw [List.length_append,←HMO.out];simp;omega,HR2,HA.out.1,HA.out.2⟩,?_⟩
       simp [intOf];omega
    ·have c10':¬(x:Int)=10:=by omega
     have HR2:Hid ((out++[x])++lin (prv xs (k+1)) (xs.drop (k+1))=R):=Lib.hid (by rw [←HST.out,if_neg (by simp [c10]),if_neg c13];simp)
     go_wp2_with (at_builtin;refine wpList_append_x at22 rfl (.tmp 37) (.tmp 42) rfl w.heap.size (.slice a m c') _ m 1 (u8s out) [.int .u8 (x:Nat)] rfl rfl (ownsRow_below HO.out ((Below.refl _ _).alloc (Nat.le_refl _) _)) (cells_one _ _ _) rfl (by intro u hu;rw [List.mem_singleton] at hu;subst hu;rfl) (by rw [alloc_size];omega) (by omega) (by omega) ?_;intro a2 c2 w2 hA;have HA:=Lib.hid (APP.out x a2 c2 w2 hA);clear hA)
     refine ⟨⟨k+1,a2,c2,out++[x],by omega,by go_num,by rw [List.length_append,←HMO.out];rfl,by rw [List.length_append,←HMO.out];simp;omega,HR2,HA.out.1,HA.out.2⟩,?_⟩
     simp [intOf];omega
  ·obtain rfl:k=n:=by omega
   have hfin:out=R:=by
    have:=hrel.out
    rw [HN.out,List.drop_length] at this
    rw [←this]
    cases prv xs xs.length <;> simp [lin]
   have HF:=Lib.hid hfin
   clear hrel hfin
   obtain ⟨m,hmo⟩:∃ m,m=out.length:=⟨_,rfl⟩
   rw [←hmo] at HO ⊢
   have HMO:=Lib.hid hmo
   clear hmo
   go_wp2
   go_ret
   refine ⟨a,c',by rw [←HF.out,←HMO.out];rfl,?_,HB.out⟩
   have h1:=HO.out
   rw [HMO.out,HF.out] at h1
   exact own_sl h1 HLB.out
end
end Go.Proofs.YtbogfailbgbdoaaGreatDoor
namespace Go.Proofs.YtbogfailbgbdoaaGreatDoor.K
set_option maxRecDepth 100000
section
open Go.RowKit Go.Proofs.YtbogfailbgbdoaaGreatDoor U
section
variable (w:World) (p:Nat) (xs:List Nat) (k fr er pl:Nat)
set_option maxHeartbeats 1600000 in
theorem rneed_any (s:List Nat) (T:ByteArray) (hT:T=txt s) (hs:Bs s) (hl:s.length≤1000) (h:Rp w p xs k fr er pl) :
  Calls Tryz.prog 52 #[.pointer (some ⟨p,0,none⟩),.string T] w fun e w'=>e = .returned (.tuple #[])∧Touch (fun i=>i=p) w w'∧
   Rp w' p xs (if er=0∧s <+: xs.drop k then k+s.length else k) fr (if er=0∧¬s <+: xs.drop k then 22 else er) (if er=0∧¬s <+: xs.drop k then fr else pl):=by
 have K:=rhas_any w p xs k fr er pl s T hT hs hl h
 have KF:=Lib.hid fun (W:World) (h:Rp W p xs k fr er pl)=>rfail_any W p xs k fr er pl 22 h
 unfold RhTo at K
 by_cases he:er=0∧s <+: xs.drop k
 ·rw [decide_eq_true he,if_pos he] at K
  have hn:¬(er=0∧¬s <+: xs.drop k):=fun h=>h.2 he.2
  rw [if_pos he,if_neg hn,if_neg hn]
  have K:=Lib.hid K
  clear h he hn hT hs hl
  go_enter Tryz.func52,Tryz.ntmps52
  go_wp2_with (go_at_call 46;refine K.out.mono ?_;rintro e w1 ⟨rfl,ht1,hs1⟩;have HT:=Lib.hid ht1;have HS:=Lib.hid hs1;clear ht1 hs1)
  go_end0
  exact ⟨rfl,HT.out,HS.out⟩
 ·rw [decide_eq_false he,if_neg he] at K
  rw [if_neg he]
  have K:=Lib.hid K
  have HE:Hid ((if er=0 then 22 else er)=(if er=0∧¬s <+: xs.drop k then 22 else er)∧(if er=0 then fr else pl)=(if er=0∧¬s <+: xs.drop k then fr else pl)):=Lib.hid (by
   by_cases h0:er=0
   ·have:¬s <+: xs.drop k:=fun h=>he ⟨h0,h⟩
    simp [h0,this]
   ·simp [h0])
  rw [←HE.out.1,←HE.out.2]
  generalize (if er=0 then 22 else er)=A at KF ⊢
  generalize (if er=0 then fr else pl)=B at KF ⊢
  clear h he hT hs hl HE
  go_enter Tryz.func52,Tryz.ntmps52
  go_wp2_with (first
   | (go_at_call 46;refine K.out.mono ?_;rintro e w1 ⟨rfl,ht1,hs1⟩;have HT:=Lib.hid ht1;have HS:=Lib.hid hs1;clear ht1 hs1)
   | (go_at_call 49;refine (KF.out w1 HS.out).mono ?_;rintro e w2 ⟨rfl,ht2,hs2⟩;have HT2:=Lib.hid (HT.out.trans ht2);have HS2:=Lib.hid hs2;clear ht2 hs2))
  go_end0
  exact ⟨rfl,HT2.out,HS2.out⟩
end
theorem bla_is (v:Nat):blaP v=decide (v=32∨v=9∨v=10∨v=13):=by
 have:blaP v=(spP v 32 32 || (spP v 9 10 || (spP v 13 13 || false))):=rfl
 rw [this]
 unfold spP
 by_cases h:v=32∨v=9∨v=10∨v=13
 ·rw [decide_eq_true h]
  rcases h with rfl | rfl | rfl | rfl <;> rfl
 ·rw [decide_eq_false h]
  simp
  omega
theorem enc_low {v:Nat} (h:v<128):enc v=[v]:=by
 unfold enc
 rw [if_pos h]
theorem nx_low {c:Nat} (h:c<128) (t:List Nat):nx (c::t)=(c,1):=by
 have:=nx_enc (v:=c) (by constructor <;> omega) t
 rw [enc_low h] at this
 exact this
theorem bla_head {c:Nat} {t:List Nat} (hb:Bs (c::t)):blaP (nx (c::t)).1=blaP c∧(blaP c=true→(nx (c::t)).2=1):=by
 by_cases h:c<128
 ·rw [nx_low h];exact ⟨rfl,fun _=>rfl⟩
 ·have hc:blaP c=false:=by rw [bla_is];exact decide_eq_false (by omega)
  rw [hc]
  refine ⟨?_,fun e=>by cases e⟩
  by_cases h2:(nx (c::t)).2=0
  ·rw [nx_none h2];exact blaP_zero
  ·obtain ⟨h3,h4,h5,h6⟩:=nx_some hb h2
   rw [bla_is]
   refine decide_eq_false fun h7=>?_
   have hl:(nx (c::t)).1<128:=by omega
   rw [h4,enc_low hl] at h5
   simp at h5
   omega
theorem txt_get (L:List Nat) (hb:Bs L) (i:Nat) (h:i<(txt L).size):((txt L)[i]'h).toNat=L.getD i 0:=by
 have h2:=bts_at (txt L) i h
 rw [bts_txt hb] at h2
 rw [List.getD_eq_getElem?_getD,h2]
 rfl
theorem drop_cons {L:List Nat} {i:Nat} (h:i<L.length):L.drop i=L.getD i 0::L.drop (i+1):=by
 rw [List.drop_eq_getElem_cons h,List.getD_eq_getElem?_getD,List.getElem?_eq_getElem h]
 rfl
theorem sk_at {L:List Nat} (hb:Bs L) {i:Nat} (h:i<L.length):sk blaP (L.drop i)=if blaP (L.getD i 0)=true then 1+sk blaP (L.drop (i+1)) else 0:=by
 have hd:=drop_cons h
 have hbd:=hb.drop i
 rw [hd] at hbd
 obtain ⟨h1,h2⟩:=bla_head hbd
 by_cases hp:blaP (L.getD i 0)=true
 ·rw [if_pos hp,hd,sk_yes blaP_zero (by rw [h1];exact hp),h2 hp]
  rfl
 ·rw [if_neg hp,hd]
  exact sk_no (by rw [h1];simpa using hp)
section
variable (w:World) (p:Nat) (xs:List Nat) (k fr er pl:Nat)
set_option maxHeartbeats 3200000 in
theorem rblanks_any (h:Rp w p xs k fr er pl) :
  Calls Tryz.prog 50 #[.pointer (some ⟨p,0,none⟩)] w fun e w'=>e = .returned (.int .i64 ((if er=0 then sk blaP (xs.drop k) else 0:Nat):Int))∧Touch (fun i=>i=p) w w'∧Rp w' p xs (k+(if er=0 then sk blaP (xs.drop k) else 0)) fr er pl:=by
 have H:=Lib.hid h
 have hlen:=h.len
 have hbs:=Lib.hid h.bs
 have hSz:(txt xs).size=xs.length:=txt_size xs
 have hget:=Lib.hid fun i h=>txt_get xs hbs.out i h
 have hkl:=h.le
 obtain ⟨M,hM⟩:∃ M,M=(if er=0 then sk blaP (xs.drop k) else 0):=⟨_,rfl⟩
 rw [←hM]
 have HM:Hid (M=0+(if er=0 then sk blaP (xs.drop (k+0)) else 0)):=Lib.hid (by rw [hM,Nat.zero_add];rfl)
 have hat:∀ kk,kk<xs.length→Hid (sk blaP (xs.drop kk)=if blaP (xs.getD kk 0)=true then 1+sk blaP (xs.drop (kk+1)) else 0):=fun kk h=>Lib.hid (sk_at hbs.out h)
 have HAT:=Lib.hid hat
 have HEND:Hid (∀ kk,xs.length≤kk→sk blaP (xs.drop kk)=0):=Lib.hid fun kk h=>by rw [List.drop_eq_nil_of_le h];rfl
 obtain ⟨S,hS⟩:∃ S,S=txt xs:=⟨_,rfl⟩
 have HS:=Lib.hid hS
 rw [←hS] at hSz
 clear h hM hat hS
 go_enter Tryz.func50,Tryz.ntmps50
 go_wp2
 go_loopg [3] (xs.length-k) (fun gh s3 wr=>∃ n:Nat,s3 = .int .i64 n∧Hid (Touch (fun i=>i=p) w wr)∧Hid (Rp wr p xs (k+n) fr er pl)∧Hid (M=n+(if er=0 then sk blaP (xs.drop (k+n)) else 0))∧xs.length-(k+n)≤gh∧k+n≤xs.length)
 case atStart=>exact ⟨0,rfl,Lib.hid (Touch.refl _ _),H,HM,by omega,hkl⟩
 case round=>
  obtain ⟨n,rfl,ht,hrp,hm,hgh,hkn⟩:=hrel
  have c0:=hrp.out.c0
  rw [←HS.out] at c0
  have c1:=hrp.out.c1
  have c3:=hrp.out.c3
  have f1:=hrp.out.blk.free 1
  obtain ⟨kk,hkk⟩:∃ kk,kk=k+n:=⟨_,rfl⟩
  have HKK:=Lib.hid hkk
  rw [←hkk] at c1 hgh hkn
  by_cases he:er=0
  ·subst he
   by_cases hlt:kk<xs.length
   ·have hltI:(kk:Int)<xs.length:=by omega
    have hSI:(kk:Int)<S.size:=by omega
    obtain ⟨x,hx⟩:∃ x:UInt8,S[kk]'(by omega)=x:=⟨_,rfl⟩
    have HX:Hid (xs.getD kk 0=x.toNat):=Lib.hid (by
     subst hx
     have:=HS.out
     subst this
     exact (hget.out kk _).symm)
    have hx256:x.toNat<256:=x.toNat_lt
    have hwr:IntKind.i64.wrap ((x.toNat:Nat):Int)=(x.toNat:Int):=by rw [IntKind.wrap_i64];omega
    have KB:=Lib.hid fun W=>(rBlank_any (x.toNat:Nat) W).mono fun e w' (h:e = .returned (.bool (wth blankL ((x.toNat:Nat):Int)))∧W=w')=>(⟨h.1,h.2.symm⟩:e = .returned (.bool (blaP x.toNat))∧w'=W)
    have HSK:Hid (sk blaP (xs.drop kk)=if blaP x.toNat=true then 1+sk blaP (xs.drop (kk+1)) else 0):=Lib.hid (by rw [(HAT.out kk hlt).out,HX.out])
    cases hb:blaP x.toNat with
    | true=>
     rw [hb] at KB
     have HB:=Lib.hid hb
     have hnl:n≤1000000:=by omega
     have HMM:Hid (M=(n+1)+(if 0=0 then sk blaP (xs.drop (k+(n+1))) else 0)):=Lib.hid (by rw [hm.out,if_pos rfl,if_pos rfl,←hkk,HSK.out,if_pos HB.out,show k+(n+1)=kk+1 by omega];omega)
     clear hb hkk
     go_upto_region 2 with fail
     go_quiet ((go_at_call 44;with_reducible exact Calls.quiet_of_same (KB.out _)))
     go_wp2
     have hkk:=HKK.out
     go_roundg (xs.length-(kk+1))
     case measure=>omega
     case rel=>
      have hset:=(hrp.out.drew nq).set1 (kk+1) (by omega)
      refine ⟨n+1,rfl,Lib.hid ((ht.out.drewN nq).trans (touch_set p 1 _ _)),Lib.hid ?_,HMM,by omega,by omega⟩
      rw [show k+(n+1)=kk+1 by omega]
      exact hset
    | false=>
     rw [hb] at KB
     have HB:=Lib.hid hb
     have HMM:Hid (M=n):=Lib.hid (by rw [hm.out,if_pos rfl,←hkk,HSK.out,hb];rfl)
     clear hb hkk hgh
     go_upto_region 2 with fail
     go_quiet ((go_at_call 44;with_reducible exact Calls.quiet_of_same (KB.out _)))
     go_wp2
     go_ret
     exact ⟨by rw [HMM.out];rfl,ht.out.drewN _,by rw [HMM.out];exact hrp.out.drew _⟩
   ·have hltI:¬((kk:Int)<xs.length):=by omega
    have HMM:Hid (M=n):=Lib.hid (by rw [hm.out,if_pos rfl,←hkk,HEND.out kk (by omega)];rfl)
    clear hkk hgh
    go_upto_region 2 with fail
    go_quiet (fail)
    go_wp2
    go_ret
    exact ⟨by rw [HMM.out];rfl,ht.out.drewN _,by rw [HMM.out];exact hrp.out.drew _⟩
  ·have heI:((er:Int) == 0)=false:=beq_eq_false_iff_ne.2 (by omega)
   have heI2:¬(er:Int)=0:=by omega
   have HMM:Hid (M=n):=Lib.hid (by rw [hm.out,if_neg he];rfl)
   clear hkk hgh he
   go_upto_region 2 with fail
   go_quiet (fail)
   go_wp2
   go_ret
   exact ⟨by rw [HMM.out];rfl,ht.out.drewN _,by rw [HMM.out];exact hrp.out.drew _⟩
end
end
end Go.Proofs.YtbogfailbgbdoaaGreatDoor.K
