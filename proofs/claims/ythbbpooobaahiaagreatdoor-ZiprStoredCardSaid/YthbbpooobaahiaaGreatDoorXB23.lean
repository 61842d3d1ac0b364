/- Part 23. -/
import Derived.Test.YthbbpooobaahiaaGreatDoorXB22
namespace Go.Proofs.YthbbpooobaahiaaGreatDoor.Zz
set_option maxRecDepth 100000
section
open Go.RowKit
theorem foldT_L {a b:ByteArray}:foldT a=foldT b↔foldL a=foldL b:=by
 unfold foldT foldL
 constructor
 ·intro h
  have:=congrArg (fun x:ByteArray=>x.data.toList) h
  simpa using this
 ·intro h;rw [h]
theorem rFold_all (s:ByteArray) (w:World) (h:s.size≤1000000):Calls Tryz.prog 20 #[.string s] w fun e w'=>e = .returned (.string (foldT s))∧Below w.heap.size w w':=rFold_any s w h
theorem totD_range (f:Nat→List Nat) (n:Nat):totD ((List.range (n+1)).map f)=totD ((List.range n).map f)+(f n).length:=by
 unfold totD
 rw [List.range_succ,List.map_append,List.map_append,List.sum_append]
 simp
theorem rws_at:∀ (l:List Sto) (a j:Nat) (h:j<l.length),∃ b,(rws a l)[j]? = some (rwOf b l[j])
 | x::l,a,0,_=>⟨a,rfl⟩
 | x::l,a,j+1,h=>by
  obtain ⟨b,hb⟩:=rws_at l (a+(hdB x).length) j (by simpa using h)
  exact ⟨b,by simpa [rws] using hb⟩
theorem sps_extra:∀ (l:List Sto) (a:Nat),∀ s∈sps a l,s.extra=0
 | [],_,s,h=>by cases h
 | x::l,a,s,h=>by
  rcases List.mem_cons.1 h with rfl | h
  ·rfl
  ·exact sps_extra l _ s h
theorem tp_sto {S:List Sto} (h:∀ x∈S,Fits x) {j:Nat} (hj:j<S.length):∃ b,((rws 0 S).map (tpR (HH S)))[j]? = some (S[j].nm,0,0,b):=by
 obtain ⟨b,hb⟩:=rws_at S 0 j hj
 obtain ⟨_,s2,_⟩:=spots_sto S [] h
 simp only [List.nil_append,List.length_nil] at s2
 have hm:spotS (HH S) (rwOf b S[j])∈sps 0 S:=by
  rw [←s2]
  exact List.mem_map.2 ⟨_,List.mem_of_getElem? hb,rfl⟩
 have he:=sps_extra _ _ _ hm
 refine ⟨b,?_⟩
 rw [List.getElem?_map,hb]
 show some (_,_,(spotS (HH S) (rwOf b S[j])).extra+_,_)=_
 rw [he]
 rfl
set_option maxHeartbeats 3200000 in
theorem stored_many (no:Option Addr) (nc n:Nat) (d0:Option Addr) (dc m:Nat) (ro:Option Addr) (rc r:Nat) (w:World) (hT:TZ w) (h:12<n∨m<n∨100<m) :
  Calls Tryz.prog 5 #[.slice no n nc,.slice d0 m dc,.slice ro r rc] w fun e w'=>e = .returned (.bool true)∧Below w.heap.size w w':=by
 have KA:=Lib.hid (alive_any w hT)
 clear hT
 by_cases c1:12<n
 ·have q1:(12:Int)<n:=by omega
  clear h c1
  go_enter Tryz.func5,Tryz.ntmps5
  go_wp2_with (go_at_call 9;refine KA.out.mono ?_;rintro e w1 ⟨rfl,hb1⟩)
  go_ret
  exact ⟨rfl,hb1⟩
 have q1:¬(12:Int)<n:=by omega
 by_cases c2:m<n
 ·have q2:(m:Int)<n:=by omega
  clear h c1 c2
  go_enter Tryz.func5,Tryz.ntmps5
  go_wp2_with (go_at_call 9;refine KA.out.mono ?_;rintro e w1 ⟨rfl,hb1⟩)
  go_ret
  exact ⟨rfl,hb1⟩
 have q2:¬(m:Int)<n:=by omega
 have q3:(100:Int)<m:=by omega
 clear h c1 c2
 go_enter Tryz.func5,Tryz.ntmps5
 go_wp2_with (go_at_call 9;refine KA.out.mono ?_;rintro e w1 ⟨rfl,hb1⟩)
 go_ret
 exact ⟨rfl,hb1⟩
structure Okn (nm:Nat→ByteArray) (f:Nat→List Nat) (i:Nat):Prop where
 d:∀ j,j<i→(f j).length≤2000
 nf:∀ j,j<i→nameF (nm j) false=false
 es:∀ j,j<i→endsSlash (nm j)=false
 un:∀ j,j<i→∀ k,k<j→foldT (nm j)≠foldT (nm k)
theorem Okn.rights {nm:Nat→ByteArray} {f:Nat→List Nat} {n:Nat} (h:Okn nm f n) (hs:Small (stos nm f n)):Rights [] (stos nm f n):=by
 have hget:∀ i (hi:i<(stos nm f n).length),(stos nm f n)[i].nm=nm i:=fun i hi=>by simp [stos,stoOf]
 refine ⟨hs.fits,fun x hx=>?_,fun i hi=>⟨by simp,fun k hk=>?_⟩⟩
 ·obtain ⟨i,hi,rfl⟩:=List.mem_map.1 hx
  have hin:=List.mem_range.1 hi
  exact ⟨h.nf i hin,h.es i hin⟩
 ·rw [hget i hi,hget k (by omega)]
  have hin:i<n:=by rw [stos_len] at hi;exact hi
  exact fun e=>h.un i hin k hk (foldT_L.2 e)
theorem Okn.next {nm:Nat→ByteArray} {f:Nat→List Nat} {i:Nat} (h:Okn nm f i) (h1:(f i).length≤2000) (h2:nameF (nm i) false=false) (h3:endsSlash (nm i)=false) (h4:∀ k,k<i→foldT (nm i)≠foldT (nm k)):Okn nm f (i+1):=by
 refine ⟨fun j hj=>?_,fun j hj=>?_,fun j hj=>?_,fun j hj k hk=>?_⟩ <;> by_cases e:j=i
 ·subst e;exact h1
 ·exact h.d j (by omega)
 ·subst e;exact h2
 ·exact h.nf j (by omega)
 ·subst e;exact h3
 ·exact h.es j (by omega)
 ·subst e;exact h4 k hk
 ·exact h.un j (by omega) k hk
set_option maxHeartbeats 3200000 in
theorem stored_walk (no:Option Addr) (nc n:Nat) (nm:Nat→ByteArray) (d0:Option Addr) (dc m:Nat) (f:Nat→List Nat) (A:Nat→Option Addr) (C:Nat→Nat) (ro:Option Addr) (rc:Nat) (rem:List Nat) (w:World) (hT:TZ w)
  (hN:Txs w no n nm) (hD:Lsb w d0 m f A C) (hR:Cu.Sl w ro rc rem) (h1:n≤12) (h2:n≤m) (h3:m≤100) :
  Calls Tryz.prog 5 #[.slice no n nc,.slice d0 m dc,.slice ro rem.length rc] w fun e w'=>e = .returned (.bool true)∧Below w.heap.size w w':=by
 have KA:=Lib.hid (alive_any w hT)
 have HT:=Lib.hid hT
 have HN:=Lib.hid hN
 have HD:=Lib.hid hD
 have HR:=Lib.hid hR
 have q1:¬(12:Int)<n:=by omega
 have q2:¬(m:Int)<n:=by omega
 have q3:¬(100:Int)<m:=by omega
 clear hT hN hD hR
 go_enter Tryz.func5,Tryz.ntmps5
 go_upto_region 5 with (go_at_call 9;refine KA.out.mono ?_;rintro e w1 ⟨rfl,hb1⟩;have HB1:=Lib.hid hb1;clear hb1)
 go_wp2_with fail
 go_loopw [7,8] (fun v7 v8 wr=>∃ i t:Nat,i≤n∧v8 = .int .i64 i∧v7 = .int .i64 t∧t≤2000*i∧Hid (t=totD ((List.range i).map f))∧Hid (Okn nm f i)∧Hid (Below w.heap.size w wr)) (fun _ v8 _=>n-(intOf v8).toNat)
 case atStart=>exact ⟨0,0,Nat.zero_le _,rfl,rfl,Nat.zero_le _,Lib.hid rfl,Lib.hid ⟨fun j h=>absurd h (Nat.not_lt_zero _),fun j h=>absurd h (Nat.not_lt_zero _),fun j h=>absurd h (Nat.not_lt_zero _),fun j h=>absurd h (Nat.not_lt_zero _)⟩,HB1⟩
 case round=>
  obtain ⟨i,t,hi,rfl,rfl,htb,htt,hok,hbel⟩:=hrel
  by_cases hlt:i<n
  ·have hii:(i:Int)<n:=by omega
   have him:(i:Int)<m:=by omega
   obtain ⟨nb,noff,rfl,hnc⟩:∃ b off,no=some ⟨b,off,none⟩∧∀ i,i<n→w.cell? ⟨b,off+i,none⟩=some (.string (nm i)):=by
    rcases HN.out with h | h
    ·omega
    ·exact h
   obtain ⟨db,doff,rfl,hdc⟩:∃ b off,d0=some ⟨b,off,none⟩∧∀ i,i<m→El w ⟨b,off+i,none⟩ (A i) (C i) (f i):=by
    rcases HD.out with h | h
    ·omega
    ·exact h
   have hcn:=(hbel.out.cell (World.block_lt_of_cell? w _ (hnc i hlt))).trans (hnc i hlt)
   have hcd:=((hdc i (by omega)).below hbel.out).cell
   have HNC:Hid (∀ W,Below w.heap.size w W→∀ k,k<n→W.cell? ⟨nb,noff+k,none⟩=some (.string (nm k))):=Lib.hid fun W hW k hk=>(hW.cell (World.block_lt_of_cell? w _ (hnc k hk))).trans (hnc k hk)
   have HDC:Hid (∀ W,Below w.heap.size w W→W.cell? ⟨db,doff+i,none⟩=some (.slice (A i) (f i).length (C i))):=Lib.hid fun W hW=>((hdc i (by omega)).below hW).cell
   have K18:=Lib.hid fun W=>rNameFault_all (nm i) false W
   have HE:=Lib.hid (ends_byt (nm i))
   have HIX:Hid (∀ j,j<(nm i).size→∀ W,(Instr.index 9 (.string (nm i)) (.int .i64 (j:Int))).run Tryz.prog W = .ok (.int .u8 (byt (nm i) j:Nat)) W):=Lib.hid (idx_byt (nm i))
   have HNX:=Lib.hid fun a b c d=>Okn.next hok.out (i:=i) a b c d
   have HTN:=Lib.hid (totD_range f i)
   have HNF:Hid (nameF (nm i) false=false→(nm i).size≠0∧(nm i).size≤255):=Lib.hid nameF_fits
   obtain ⟨s,hs⟩:∃ s,s=nm i:=⟨_,rfl⟩
   obtain ⟨D,hDl⟩:∃ D,D=(f i).length:=⟨_,rfl⟩
   rw [←hs] at hcn K18 HE HIX HNX HNF
   rw [←hDl] at hcd HNX HTN HDC
   generalize A i=da at hcd HDC
   generalize C i=dcc at hcd HDC
   obtain ⟨Z,hZ⟩:∃ Z,Z=s.size:=⟨_,rfl⟩
   have hlen:∀ W,(Builtin.len_ #[9] 3 #[.string s]).run Tryz.prog W = .ok (.int .i64 (Z:Nat)) W:=fun W=>by
    rw [hZ];exact run_len_string W 9 3 s Tryz.underlying9
   rw [←hZ] at HE HIX HNF
   have HS:=Lib.hid hs
   clear hs hDl hZ hnc hdc
   have K18q:Hid (∀ W,Calls Tryz.prog 18 #[.string s,.bool false] W fun e w'=>e = .returned (.bool (nameF s false))∧w'=W):=Lib.hid fun W=>(K18.out W).mono fun e w' h=>⟨h.1,h.2.symm⟩
   clear K18
   by_cases c1:2000<D
   ·have z1:(2000:Int)<D:=by omega
    clear c1
    go_upto_region 9 with fail
    go_quiet (fail)
    go_wp2_with fail
    go_ret
    exact ⟨rfl,below_drewN hbel.out _⟩
   have z1:¬(2000:Int)<D:=by omega
   cases hnf:nameF s false with
   | true=>
    rw [hnf] at K18q
    clear c1 hnf
    go_upto_region 9 with fail
    go_quiet ((go_at_call 18;exact Calls.quiet_of_same (K18q.out _)))
    go_wp2_with fail
    go_ret
    exact ⟨rfl,below_drewN hbel.out _⟩
   | false=>
   rw [hnf] at K18q
   obtain ⟨zs0,zs1⟩:=HNF.out hnf
   obtain ⟨Z1,hZ1⟩:∃ Z1,Z1=Z-1:=⟨_,rfl⟩
   have hwz:IntKind.i64.wrap ((Z:Int)-1)=(Z1:Int):=by rw [wrapS _ (by omega) (by omega)];omega
   have hidx:=HIX.out Z1 (by omega)
   have hes:=HE.out (by omega)
   rw [←hZ1] at hes
   obtain ⟨lb,hlb⟩:∃ lb,lb=byt s Z1:=⟨_,rfl⟩
   rw [←hlb] at hidx hes
   have HES:=Lib.hid hes
   have HNF1:=Lib.hid hnf
   have HSZ:Hid (s.size≤255):=Lib.hid (nameF_fits hnf).2
   clear hZ1 hlb hes hnf zs0
   by_cases c2:lb=47
   ·have z2:((lb:Int) == 47)=true:=by simp;omega
    clear c1 c2
    go_upto_region 9 with fail
    go_quiet ((go_at_call 18;exact Calls.quiet_of_same (K18q.out _)))
    go_wp2_with fail
    go_ret
    exact ⟨rfl,below_drewN hbel.out _⟩
   have z2:((lb:Int) == 47)=false:=by simp;omega
   have HES2:Hid (endsSlash s=false):=Lib.hid (by rw [HES.out];simpa using c2)
   have HC1:=Lib.hid c1
   clear c1 c2
   go_upto_region 9 with fail
   go_quiet ((go_at_call 18;exact Calls.quiet_of_same (K18q.out _)))
   obtain ⟨wq,hwq⟩:∃ wq,wq=wr.drewN nq:=⟨_,rfl⟩
   have hbq:Below w.heap.size w wq:=by rw [hwq];exact below_drewN hbel.out _
   rw [←hwq]
   have hcdq:=HDC.out wq hbq
   have HBQ:=Lib.hid hbq
   obtain ⟨t2,ht2⟩:∃ t2,t2=t+D:=⟨_,rfl⟩
   have hwt:IntKind.i64.wrap ((t:Int)+D)=(t2:Int):=by rw [wrapS _ (by omega) (by omega)];omega
   have HT2:Hid (t2=totD ((List.range (i+1)).map f)∧t2≤2000*(i+1)):=Lib.hid ⟨by rw [HTN.out,ht2,htt.out],by have:=HC1.out;omega⟩
   clear hwq hbq ht2 hcn hcd
   go_wp2_with fail
   go_loopw [9] (fun v9 wk=>∃ k:Nat,k≤i∧v9 = .int .i64 k∧Hid (∀ k',k'<k→foldT s≠foldT (nm k'))∧Hid (Below w.heap.size w wk)) (fun v9 _=>i-(intOf v9).toNat)
   case atStart=>exact ⟨0,Nat.zero_le _,rfl,Lib.hid fun k h=>absurd h (Nat.not_lt_zero _),HBQ⟩
   case round=>
    obtain ⟨k,hk,rfl,hun,hbk⟩:=hrel
    by_cases hki:k<i
    ·have hkk:(k:Int)<i:=by omega
     have hkn:(k:Int)<n:=by omega
     have HBK0:=hbk.out
     have hsk:=(nameF_fits (hok.out.nf k hki)).2
     have hcs:=HNC.out wr HBK0 i hlt
     have hck:=HNC.out wr HBK0 k (by omega)
     rw [←HS.out] at hcs
     obtain ⟨s2,hs2⟩:∃ s2,s2=nm k:=⟨_,rfl⟩
     rw [←hs2] at hck hsk
     have HS2:=Lib.hid hs2
     have AF:Hid (∀ W,Below w.heap.size w W→W.cell? ⟨nb,noff+i,none⟩=some (.string s)∧W.cell? ⟨nb,noff+k,none⟩=some (.string s2)):=Lib.hid fun W hW=>by
      have a1:=HNC.out W hW i hlt
      have a2:=HNC.out W hW k (by omega)
      rw [←HS.out] at a1
      rw [←HS2.out] at a2
      exact ⟨a1,a2⟩
     have KF1:=Lib.hid fun W=>rFold_all s W (by have:=HSZ.out;omega)
     have KF2:=Lib.hid fun W=>rFold_all s2 W (by omega)
     obtain ⟨F1,hF1⟩:∃ F1,F1=foldT s:=⟨_,rfl⟩
     obtain ⟨F2,hF2⟩:∃ F2,F2=foldT s2:=⟨_,rfl⟩
     rw [←hF1] at KF1
     have HF1:=Lib.hid hF1
     rw [←hF2] at KF2
     have HF2:=Lib.hid hF2
     have HBX:Hid (Below w.heap.size w wr.drew):=Lib.hid (below_drewN HBK0 1)
     clear hs2 hF1 hF2 hsk
     by_cases hF:F1=F2
     ·subst hF
      go_upto_region 15 with fail
      go_region_held3 (fun W=>W.cell? ⟨nb,noff+i,none⟩=some (.string s)∧W.cell? ⟨nb,noff+k,none⟩=some (.string s2)) (exact AF.out _ HBX.out) (first
       | (go_at_call 20;(with_reducible refine (KF1.out _).mono ?_);rintro e wy ⟨rfl,hby⟩;have HBX:=Lib.hid (HBX.out.trans (hby.mono HBX.out.size));clear hby)
       | (go_at_call 20;(with_reducible refine (KF2.out _).mono ?_);rintro e wy ⟨rfl,hby⟩;have HBX:=Lib.hid (HBX.out.trans (hby.mono HBX.out.size));clear hby))
      all_goals
       go_wp2_with fail
       go_ret
       exact ⟨rfl,HBX.out⟩
     ·have hFf:(F1.toList == F2.toList)=false:=by
       rw [ByteArray.toList_eq,ByteArray.toList_eq]
       have:F1.data.toList≠F2.data.toList:=fun e=>hF (by
        cases F1;cases F2
        simp at e
        rw [e])
       simpa using this
      have HNU:Hid (∀ k',k'<k+1→foldT s≠foldT (nm k')):=Lib.hid fun k' hk'=>by
       by_cases e:k'=k
       ·subst e;rw [←HS2.out,←HF2.out,←HF1.out];exact hF
       ·exact hun.out k' (by omega)
      clear hF
      go_upto_region 15 with fail
      go_region_held3 (fun W=>W.cell? ⟨nb,noff+i,none⟩=some (.string s)∧W.cell? ⟨nb,noff+k,none⟩=some (.string s2)) (exact AF.out _ HBX.out) (first
       | (go_at_call 20;(with_reducible refine (KF1.out _).mono ?_);rintro e wy ⟨rfl,hby⟩;have HBX:=Lib.hid (HBX.out.trans (hby.mono HBX.out.size));clear hby)
       | (go_at_call 20;(with_reducible refine (KF2.out _).mono ?_);rintro e wy ⟨rfl,hby⟩;have HBX:=Lib.hid (HBX.out.trans (hby.mono HBX.out.size));clear hby))
      all_goals
       go_wp2_with fail
       go_roundw
       case rel=>exact ⟨k+1,by omega,by go_num,HNU,HBX⟩
       case measure=>simp [intOf];omega
    ·obtain rfl:k=i:=by omega
     have hnk:¬(k:Int)<k:=by omega
     go_wp2_with fail
     go_roundw
     case rel=>exact ⟨_,_,_,⟨k+1,by omega,rfl,t2,rfl,HT2.out.2,Lib.hid HT2.out.1,Lib.hid (HNX.out (by have:=HC1.out;omega) HNF1.out HES2.out hun.out)⟩,rfl,rfl,by go_num⟩
     case measure=>simp [intOf];omega
  ·obtain rfl:i=n:=by omega
   have hni:¬(i:Int)<i:=by omega
   have HOK:=Lib.hid hok.out
   have HTT:=Lib.hid htt.out
   have hbs:∀ j,j<i→Bs (f j):=fun j hj=>by
    rcases HD.out with h | ⟨b,off,_,hc⟩
    ·omega
    ·exact (hc j (by omega)).sl.bs
   have hszs:∀ j,j<i→(nm j).size≤2000∧(f j).length≤2000:=fun j hj=>⟨by have:=(nameF_fits (HOK.out.nf j hj)).2;omega,HOK.out.d j hj⟩
   have hsm:=stos_small (nm:=nm) (f:=f) h1 hszs hbs
   have HSM:=Lib.hid hsm
   have HRI:=Lib.hid (HOK.out.rights hsm)
   have HSU:Hid (∀ x∈stos nm f i,(CrcPlain.updN 0#32 x.d).toNat=x.sum):=Lib.hid fun x hx=>by
    obtain ⟨j,_,rfl⟩:=List.mem_map.1 hx
    rfl
   have hmd:(stos nm f i).map (·.d)=(List.range i).map f:=by unfold stos;rw [List.map_map];rfl
   have HGN:Hid (∀ j (h:j<i),∃ hj:j<(stos nm f i).length,(stos nm f i)[j].nm=nm j∧(stos nm f i)[j].d=f j):=Lib.hid fun j hj=>⟨by rw [stos_len];exact hj,by simp [stos,stoOf],by simp [stos,stoOf]⟩
   have K21:=stored_any no nc nm d0 dc f A C i m wr (HN.out.below hbel.out) (HD.out.below hbel.out) h2 h1 (fun j hj=>by have:=hszs j hj;omega)
   obtain ⟨S,hS⟩:∃ S,S=stos nm f i:=⟨_,rfl⟩
   have hSl:S.length=i:=by rw [hS,stos_len]
   rw [←hS] at K21 HSM HRI HSU hmd HGN
   obtain ⟨L,hL⟩:∃ L,L=stoP S:=⟨_,rfl⟩
   rw [←hL] at K21
   have HLB:Hid (Bs L):=Lib.hid (by rw [hL];exact stoP_bs HSM.out)
   have hLl:22≤L.length∧L.length≤90000:=by
    have hr:∀ k,k≤i→(RR 0 (stos nm f k)).length≤k*346:=by
     intro k
     induction k with
     | zero=>intro _;simp [stos,RR]
     | succ k ih=>
      intro hk
      have h1:=ih (by omega)
      have h3:=(nameF_fits (HOK.out.nf k (by omega))).2
      rw [RR_next,List.length_append,rwB_len]
      simp only [stoOf]
      omega
    have hh:=HSM.out.heads
    have hq:=hr i (Nat.le_refl _)
    rw [hL,stoP_len,hS]
    rw [hS] at hh
    omega
   have HRD:Hid (readP L (L.length:Nat) (i:Nat) (t:Nat) = .ok (rws 0 S,(HH S).length,(List.range i).map f)):=Lib.hid (by
    have:=readP_stoP HSM.out HRI.out HSU.out (B:=(L.length:Nat)) (E:=(i:Nat)) (T:=(t:Nat)) (by rw [←hL];omega) (by rw [hSl];omega) (by rw [hmd,←HTT.out];omega)
    rw [←hL,hmd] at this
    exact this)
   have HTK:Hid (L.take (HH S).length=HH S):=Lib.hid (by rw [hL];unfold stoP;rw [List.append_assoc,List.take_left])
   have HLL:=Lib.hid hLl
   have HLE:=Lib.hid hL
   have HSl:=Lib.hid hSl
   have htb2:t≤24000:=by omega
   have K21:=Lib.hid K21
   clear hbs hszs hsm hmd hS hSl hL hLl htt hok
   go_upto_region 18 with (go_at_call 21;refine K21.out.mono ?_;rintro e w2 ⟨bo,bc,rfl,hown,hb2⟩;have HOWN:=Lib.hid hown;have HB2:=Lib.hid (hbel.out.trans (hb2.mono hbel.out.size));clear hown hb2)
   obtain ⟨hsl,_⟩:=own_sl HOWN.out HLB.out rfl
   have HSL:=Lib.hid hsl
   have K12:Hid (∀ W,Below w2.heap.size w2 W→Calls Tryz.prog 12 #[.slice bo L.length bc,.agg #[.int .i64 (L.length:Nat),.int .i64 (i:Nat),.int .i64 (t:Nat)]] W fun en w'=>Below W.heap.size W w'∧∃ (ems:List Em) (a:Option Addr) (c:Nat),en = .returned (.tuple #[.slice a i c,.int .i64 0])∧Ems w' W.heap.size (.slice a i c) ems∧ems.length=i∧∀ j (hj:j<ems.length),(ems[j]).nm=nm j∧(ems[j]).extra=0∧(ems[j]).d=f j):=Lib.hid fun W hW=>by
    have:=read_any bo bc L (L.length:Nat) (i:Nat) (t:Nat) W (HT.out.grow (HB2.out.trans (hW.mono HB2.out.size))) (hsl.below hW) (by have:=HLL.out;omega) (by omega)
    rw [HRD.out] at this
    refine this.mono ?_
    rintro en w' ⟨hb,ems,a,c,g1,g2,g3,g4⟩
    rw [rws_len,HSl.out] at g1 g2
    have hel:ems.length=i:=by have:=congrArg List.length g4;rw [List.length_map,List.length_map,List.length_range] at this;exact this
    refine ⟨hb,ems,a,c,g1,g2,hel,fun j hj=>?_⟩
    obtain ⟨hjs,n1,n2⟩:=HGN.out j (by omega)
    obtain ⟨b,hb2⟩:=tp_sto HSM.out.fits hjs
    rw [HTK.out] at g3
    rw [←g3,List.getElem?_map,List.getElem?_eq_getElem hj] at hb2
    simp only [Option.map_some,Option.some.injEq,Prod.mk.injEq] at hb2
    have e4:=congrArg (·[j]?) g4
    simp only [List.getElem?_map,List.getElem?_eq_getElem hj,List.getElem?_range (show j<i by omega),Option.map_some,Option.some.injEq] at e4
    exact ⟨by rw [hb2.1,n1],hb2.2.2.1,e4⟩
   clear hsl HRD HTK HGN HRI HSU
   go_upto_region 21 with (go_at_call 12;(with_reducible refine (K12.out w2 (Below.refl _ _)).mono ?_);rintro e w3 ⟨hb3,ems,la,lc,rfl,hem,hel,hee⟩;have HB23:=Lib.hid hb3;have HB3:=Lib.hid (HB2.out.trans (hb3.mono HB2.out.size));have HEM:=Lib.hid hem;have HEL:=Lib.hid hel;have HEE:=Lib.hid hee;clear hb3 hem hel hee)
   go_wp2_with fail
   go_loopw [13] (fun v13 wk=>∃ j:Nat,j≤i∧v13 = .int .i64 j∧Hid (Below w3.heap.size w3 wk)) (fun v13 _=>i-(intOf v13).toNat)
   case atStart=>exact ⟨0,Nat.zero_le _,rfl,Lib.hid (Below.refl _ _)⟩
   case round=>
    obtain ⟨j,hj,rfl,hbk⟩:=hrel
    by_cases hji:j<i
    ·have hjj:(j:Int)<i:=by omega
     have hjm:(j:Int)<m:=by omega
     obtain ⟨nb,noff,rfl,hnc⟩:∃ b off,no=some ⟨b,off,none⟩∧∀ k,k<i→w.cell? ⟨b,off+k,none⟩=some (.string (nm k)):=by
      rcases HN.out with h | h
      ·omega
      ·exact h
     obtain ⟨db,doff,rfl,hdc⟩:∃ b off,d0=some ⟨b,off,none⟩∧∀ k,k<m→El w ⟨b,off+k,none⟩ (A k) (C k) (f k):=by
      rcases HD.out with h | h
      ·omega
      ·exact h
     have hbw:Below w.heap.size w wr:=HB3.out.trans (hbk.out.mono HB3.out.size)
     have hcn:=(hbw.cell (World.block_lt_of_cell? w _ (hnc j hji))).trans (hnc j hji)
     have hel:=(hdc j (by omega)).below hbw
     have hcd:=hel.cell
     obtain ⟨e1,e2,e3⟩:=HEE.out j (by rw [HEL.out];exact hji)
     obtain ⟨g,gc,hgv,hgl,hg⟩:=HEM.out.at (i:=j) (by rw [HEL.out];exact hji)
     obtain rfl:la=some ⟨g,0,none⟩:=by injection hgv
     have hxs:=(HEM.out.sl (ems[j]'(by rw [HEL.out];exact hji)) (List.getElem_mem _)).below hbk.out
     have hxl:=HOK.out.d j hji
     generalize ems[j]'(by rw [HEL.out];exact hji)=x at e1 e2 e3 hg hxs
     obtain ⟨xn,xd,xda,xdc,xm,xe,xat⟩:=x
     simp only at e1 e2 e3 hxs
     subst e1 e2 e3
     have gr:∀ {p:Addr} {v:Value},w3.cell? p=some v→wr.cell? p=some v:=fun h=>(hbk.out.cell (World.block_lt_of_cell? w3 _ h)).trans h
     have c1:wr.cell? ⟨g,j*5,none⟩=some (.string (nm j)):=gr (hg 0 _ rfl)
     have c2:wr.cell? ⟨g,j*5+1,none⟩=some (.slice xda (f j).length xdc):=gr (hg 1 _ rfl)
     have c3:wr.cell? ⟨g,j*5+3,none⟩=some (.int .i64 0):=gr (hg 3 _ rfl)
     have hys:=hel.sl
     obtain ⟨s,hs⟩:∃ s,s=nm j:=⟨_,rfl⟩
     obtain ⟨xd,hxd⟩:∃ xd,xd=f j:=⟨_,rfl⟩
     rw [←hs] at c1 hcn
     rw [←hxd] at c2 hcd hxs hys hxl
     have K14:Hid (∀ W,Below wr.heap.size wr W→Calls Tryz.prog 14 #[.slice xda xd.length xdc,.slice (A j) xd.length (C j)] W fun e w'=>e = .returned (.bool true)∧∃ nq,w'=W.drewN nq):=Lib.hid fun W hW=>by
      have:=same_any (w:=W) (by_grow (sl_by hxs) hW) (by_grow (sl_by hys) hW) (by omega)
      refine this.mono ?_
      rintro e w' ⟨rfl,nq,rfl⟩
      exact ⟨by simp,nq,rfl⟩
     generalize A j=da at hcd K14
     generalize C j=dcc at hcd K14
     clear hgv hg hxs hys gr hel hnc hdc hbw hs hxd hxl
     go_upto_region 24 with fail
     have AF:Hid (∀ W,Below wr.heap.size wr W→W.cell? ⟨g,j*5,none⟩=some (.string s)∧W.cell? ⟨g,j*5+1,none⟩=some (.slice xda xd.length xdc)∧W.cell? ⟨g,j*5+3,none⟩=some (.int .i64 0)∧W.cell? ⟨nb,noff+j,none⟩=some (.string s)∧W.cell? ⟨db,doff+j,none⟩=some (.slice da xd.length dcc)):=Lib.hid fun W hW=>by
      have gr:∀ {p:Addr} {v:Value},wr.cell? p=some v→W.cell? p=some v:=fun h=>(hW.cell (World.block_lt_of_cell? wr _ h)).trans h
      exact ⟨gr c1,gr c2,gr c3,gr hcn,gr hcd⟩
     have hszr:w3.heap.size≤wr.heap.size:=hbk.out.size
     go_region_held3 (fun W=>W.cell? ⟨g,j*5,none⟩=some (.string s)∧W.cell? ⟨g,j*5+1,none⟩=some (.slice xda xd.length xdc)∧W.cell? ⟨g,j*5+3,none⟩=some (.int .i64 0)∧W.cell? ⟨nb,noff+j,none⟩=some (.string s)∧W.cell? ⟨db,doff+j,none⟩=some (.slice da xd.length dcc)) (exact AF.out _ (by first | with_reducible exact HX10.out | exact below_drewN (Below.refl _ _) 1)) (first | (go_at_call 14;refine (K14.out _ (below_drewN (Below.refl _ _) 1)).mono ?_;rintro e w10 ⟨rfl,nq10,hq10⟩;have HX10:Hid (Below wr.heap.size wr w10):=Lib.hid (by rw [hq10];exact below_drewN (below_drewN (Below.refl _ _) 1) _);clear hq10))
     all_goals
      go_wp2_with fail
      go_roundw
      case rel=>exact ⟨j+1,by omega,by go_num,Lib.hid (hbk.out.trans (HX10.out.mono hszr))⟩
      case measure=>simp [intOf];omega
    ·obtain rfl:j=i:=by omega
     have hnj:¬(j:Int)<j:=by omega
     have hB3w:Below w.heap.size w wr:=HB3.out.trans (hbk.out.mono HB3.out.size)
     have HBW:=Lib.hid hB3w
     have HRW:=Lib.hid (HR.out.below hB3w)
     have HSLW:=Lib.hid (HSL.out.below (HB23.out.trans (hbk.out.mono HB23.out.size)))
     obtain ⟨r,hr⟩:∃ r,r=rem.length:=⟨_,rfl⟩
     clear hB3w
     by_cases c1:r=0
     ·have z1:((r:Int) == 0)=true:=by simp;omega
      rw [←hr]
      clear hr c1
      go_wp2_with fail
      go_ret
      exact ⟨rfl,HBW.out⟩
     have z1:((r:Int) == 0)=false:=by simp;omega
     by_cases c2:200<r
     ·have z2:(200:Int)<r:=by omega
      rw [←hr]
      clear hr c1 c2
      go_wp2_with fail
      go_ret
      exact ⟨rfl,HBW.out⟩
     have z2:¬(200:Int)<r:=by omega
     by_cases c3:j=0
     ·have z3:((j:Int) == 0)=true:=by simp;omega
      rw [←hr]
      clear hr c1 c2 c3
      go_wp2_with fail
      go_ret
      exact ⟨rfl,HBW.out⟩
     have z3:((j:Int) == 0)=false:=by simp;omega
     have hby:BySl wr (.slice ro rem.length rc) rem:=sl_by HRW.out
     have K11:=copy_any hby (by omega)
     rw [←hr] at K11
     have K11:Hid (Calls Tryz.prog 11 #[.slice ro r rc] wr fun e w'=>∃ ao c,e = .returned (.slice ao r c)∧w'.ownsRow wr.heap.size 5 1 (.slice ao r c) r (u8s rem)∧Below wr.heap.size wr w'):=Lib.hid (K11.mono fun e w' ⟨ao,c,g1,g2,g3⟩=>by rw [←hr] at g1 g2;exact ⟨ao,c,g1,g2,g3⟩)
     obtain ⟨X,hX⟩:∃ X,X=rem++L:=⟨_,rfl⟩
     have lX:Hid (X.length=r+L.length):=Lib.hid (by rw [hX,List.length_append,hr])
     have EX:=Lib.hid hX
     have HRr:=Lib.hid hr
     have HRX:Hid (readP X 1048576 1000 1048576 = .error 10):=Lib.hid (by
      have hl:=lX.out
      rw [hX] at hl ⊢
      rw [HLE.out] at hl ⊢
      have h9:=HLL.out
      rw [HLE.out] at h9
      exact readP_ahead HSM.out HR.out.bs (by intro e;rw [e] at hr;exact c1 hr) (by rw [hl];omega))
     have HXB:Hid (Bs X):=Lib.hid (by rw [hX];exact fun x hx=>(List.mem_append.1 hx).elim (HR.out.bs x) (HLB.out x))
     have HC2:=Lib.hid c2
     have K12x:∀ W,Below wr.heap.size wr W→∀ {xo xc},Cu.Sl W xo xc X→Calls Tryz.prog 12 #[.slice xo X.length xc,.agg #[.int .i64 1048576,.int .i64 1000,.int .i64 1048576]] W fun en w'=>Below W.heap.size W w'∧en = .returned (.tuple #[.slice none 0 0,.int .i64 10]):=fun W hW xo xc hs=>by
      have:=read_any xo xc X 1048576 1000 1048576 W (HT.out.grow (HBW.out.trans (hW.mono HBW.out.size))) hs (by rw [lX.out];have:=HLL.out;have:=HC2.out;omega) (by decide)
      rw [HRX.out] at this
      exact this
     have K12x:=Lib.hid fun W hW => @K12x W hW
     rw [←hr]
     clear hby c1 c2 c3 hX hr
     go_upto_region 28 with fail
     go_wp2_with (first
      | (go_at_call 11;refine K11.out.mono ?_;rintro e w4 ⟨co,cc,rfl,hown,hb4⟩;have HO4:Hid (w4.ownsRow wr.heap.size 5 1 (.slice co rem.length cc) rem.length (u8s rem)):=Lib.hid (by rw [←HRr.out];exact hown);have HB4:=Lib.hid hb4;clear hown hb4)
      | (refine wpList_append_x rfl (.tmp 164) (.tmp 165) rfl wr.heap.size (.slice co r cc) (.slice bo L.length bc) rem L rfl rfl (by rw [HRr.out];exact HO4.out) (by_grow (sl_by HSLW.out) HB4.out) HB4.out.size (by rw [←HRr.out];have:=HLL.out;have:=HC2.out;omega) ?_;intro xo xc w5 hA;rw [←EX.out] at hA ⊢;have HSX:=Lib.hid (own_sl hA.own HXB.out rfl).1;have HB5:Hid (Below wr.heap.size wr w5):=Lib.hid (HB4.out.trans (hA.touch.below HB4.out.size fun k hk=>(HO4.out.lt k (by rw [←HRr.out];exact hk)).1));clear hA)
      | (go_at_call 22;refine (all_any _).mono ?_;rintro e w6 ⟨rfl,hb6⟩;have HB6:=Lib.hid (HB5.out.trans (hb6.mono HB5.out.size));have HSX6:=Lib.hid (HSX.out.below hb6);clear hb6)
      | (go_at_call 12;refine (K12x.out w6 HB6.out HSX6.out).mono ?_;rintro e w7 ⟨hb7,rfl⟩;have HB7:=Lib.hid (HB6.out.trans (hb7.mono HB6.out.size));clear hb7))
     go_ret
     exact ⟨rfl,HBW.out.trans (HB7.out.mono HBW.out.size)⟩
theorem stored_all (no:Option Addr) (nc n:Nat) (nm:Nat→ByteArray) (d0:Option Addr) (dc m:Nat) (f:Nat→List Nat) (A:Nat→Option Addr) (C:Nat→Nat) (ro:Option Addr) (rc:Nat) (rem:List Nat) (w:World) (hT:TZ w)
  (hN:Txs w no n nm) (_hn:n≤maxLen∧∀ i,i<n→(nm i).size≤maxLen) (hD:Lsb w d0 m f A C) (_hm:m≤maxLen) (hR:Cu.Sl w ro rc rem) :
  Calls Tryz.prog 5 #[.slice no n nc,.slice d0 m dc,.slice ro rem.length rc] w fun e w'=>e = .returned (.bool true)∧Below w.heap.size w w':=by
 by_cases h:12<n∨m<n∨100<m
 ·exact stored_many no nc n d0 dc m ro rc rem.length w hT h
 ·exact stored_walk no nc n nm d0 dc m f A C ro rc rem w hT hN hD hR (by omega) (by omega) (by omega)
end
end Go.Proofs.YthbbpooobaahiaaGreatDoor.Zz
