/- Part 3. -/
import Derived.Deep.RegionLaw
import Derived.Lib.SlBytesConst
import Derived.Test.YtbogfailbgbdoaaGreatDoorXB2
set_option linter.unusedVariables false
set_option linter.unusedSimpArgs false
namespace Go.Proofs.YtbogfailbgbdoaaGreatDoor
set_option maxRecDepth 100000
section
open Go.RowKit
def row (T:Nat) (xs:List Nat):List Value:=u8s xs++List.replicate (T-xs.length) (.int .u8 0)
theorem row_zero (T:Nat):va (T*1) (fun i=>(Value.int .u8 0).cells[i%(Value.int .u8 0).cells.size]!)=(row T []).toArray:=by
 unfold va row
 congr 1
 rw [Nat.mul_one]
 apply List.ext_getElem
 ·simp [u8s]
 ·intro i h1 h2
  simp [u8s,Value.cells,Nat.mod_one]
theorem Sl.cell {w:World} {b o c:Nat} {xs:List Nat} (h:Sl w (some ⟨b,o,none⟩) c xs) (j:Nat) (hj:j<xs.length):w.cell? ⟨b,o+j,none⟩=some (.int .u8 (xs.getD j 0:Nat)):=by
 rcases h.src with h0 | ⟨b',o',e,hc⟩
 ·rw [h0] at hj;simp at hj
 ·injection e with e;injection e with e1 e2
  subst e1 e2
  exact hc j hj
theorem wrap_small {x:Int} (h0 : -1000000000≤x) (h1:x≤1000000000):wrap64 x=x:=by unfold wrap64;omega
theorem row_len {T:Nat} {xs:List Nat} (h:xs.length≤T):(row T xs).length=T:=by simp [row,u8s_len];omega
theorem row_full {T:Nat} {xs:List Nat} (h:T=xs.length):row T xs=u8s xs:=by simp [row,h]
theorem blk_own {w W:World} {g T:Nat} {L:List Nat} (h:Blk W g 5 (u8s L).toArray) (hT:T=L.length) (hg:w.heap.size≤g) (hm:T≤maxLen) (hb:Below w.heap.size w W):OwnB L w (.returned (.slice (some ⟨g,0,none⟩) T T)) W:=by
 subst hT
 exact ⟨some ⟨g,0,none⟩,L.length,rfl,⟨by rw [u8s_len,Nat.mul_one],.inr ⟨g,L.length,_,rfl,hg,h,Nat.le_refl _,hm,by simp [u8s_len],by rw [Nat.mul_one];exact List.take_of_length_le (by simp [u8s_len])⟩⟩,hb⟩
theorem row_splice {T:Nat} {xs ys:List Nat} (h:xs.length+ys.length≤T):splice (row T xs) xs.length (u8s ys)=row T (xs++ys):=by
 unfold splice row
 rw [u8s_len,←u8s_app,List.take_left' (u8s_len xs),List.drop_append,List.drop_eq_nil_of_le (by rw [u8s_len];omega),u8s_len,List.nil_append,List.drop_replicate,List.length_append,List.append_assoc]
 congr 3
 omega
set_option maxHeartbeats 6400000 in
theorem replace2 (ao a2 a3:Option Addr) (c c2 c3:Nat) (s:List Nat) (w:World) (h:Sl w ao c s) (h2:Sl w a2 c2 [13,10]) (h3:Sl w a3 c3 [10]) (hm:s.length≤1000000) (hT:TU w) :
  Calls Tryz.prog 67 #[.slice ao s.length c,.slice a2 2 c2,.slice a3 1 c3,.int .i64 (-1)] w (OwnB (rplA [13,10] [10] s) w):=by
 have hbs:=h.bs
 have KC:=count_any ao a2 c c2 s [13,10] w h h2 (by omega) (by decide) (by decide) hT
 have KC:Hid (Calls Tryz.prog 92 #[.slice ao s.length c,.slice a2 2 c2] w fun e w'=>e = .returned (.int .i64 (cn s [13,10]:Nat))∧Drew w w'):=Lib.hid KC
 obtain ⟨m,hmc⟩:∃ m,m=cn s [13,10]:=⟨_,rfl⟩
 rw [←hmc] at KC
 have HMC:=Lib.hid hmc
 have HS:=Lib.hid h
 have HS2:=Lib.hid h2
 have HS3:=Lib.hid h3
 have HT:=Lib.hid hT
 clear h h2 h3 hT
 by_cases hm0:m=0
 ·subst hm0
  have e:rplA [13,10] [10] s=s:=by unfold rplA;rw [←hmc];rfl
  rw [e]
  clear hmc e
  go_enter Tryz.func67,Tryz.ntmps67
  go_wp2_with (first
   | (go_at_call 92;(with_reducible refine KC.out.mono ?_);rintro e w1 ⟨rfl,q,rfl⟩;have HB1:=Lib.hid (below_drewN (Below.refl w.heap.size w) q);have HCA:=Lib.hid (HS.out.drewN q).cells)
   | (at_builtin;refine wpList_append_x at22 rfl (.const (.slice none 0 0)) (.tmp 24) rfl w.heap.size (.slice none 0 0) (.slice ao s.length c) 0 s.length [] (u8s s) rfl rfl ⟨rfl,.inl ⟨rfl,rfl⟩⟩ HCA.out (by rw [u8s_len,Nat.mul_one]) (u8s_one s) (by exact Nat.le_refl _) (by omega) (by omega) ?_;intro ao4 c4 w4 hA;have HA:=Lib.hid hA;clear hA))
  go_ret
  have hA:=HA.out
  rw [Nat.zero_add,List.nil_append] at hA
  exact ⟨ao4,c4,rfl,hA.own,HB1.out.trans (hA.below (m:=0) (ys:=[]) ⟨rfl,.inl ⟨rfl,rfl⟩⟩ (Nat.le_refl _))⟩
 have hm0':¬(m:Int)=0:=by omega
 have hlen:=rpl_len [13,10] [10] (by decide) m s hmc.symm
 have hmle:=cn_le (old:=[13,10]) (by decide) m s hmc.symm
 simp only [List.length_cons,List.length_nil,Nat.zero_add,Nat.reduceAdd] at hlen hmle
 obtain ⟨L,hL⟩:∃ L,L=rplA [13,10] [10] s:=⟨_,rfl⟩
 have hLm:rpl [13,10] [10] m s=L:=by rw [hL,hmc];rfl
 have HLB:Hid (Bs L):=Lib.hid (by rw [←hLm];exact rpl_bs (fun x hx=>by simp at hx;omega) m s hbs)
 rw [hLm] at hlen
 obtain ⟨T,hTl⟩:∃ T,T=L.length:=⟨_,rfl⟩
 rw [←hTl] at hlen
 rw [←hL]
 have hw1:wrap64 (-(m:Int)) = -(m:Int):=by unfold wrap64;omega
 have hw2:wrap64 ((s.length:Int) + -(m:Int))=(T:Int):=by unfold wrap64;omega
 have HL:=Lib.hid hLm
 have HTL:=Lib.hid hTl
 have HTM:Hid (T≤maxLen):=Lib.hid (by unfold maxLen;omega)
 obtain ⟨n,hn⟩:∃ n,n=s.length:=⟨_,rfl⟩
 have HN:=Lib.hid hn
 rw [←hn] at hlen hmle hm hw2 KC ⊢
 have hne:s≠[]:=by intro e;rw [e] at hn;simp at hn;omega
 obtain ⟨b,off,rfl,hcell⟩:∃ b off,ao=some ⟨b,off,none⟩∧∀ j,j<s.length→w.cell? ⟨b,off+j,none⟩=some (.int .u8 (s.getD j 0:Nat)):=by
  rcases HS.out.src with h0 | h0
  ·exact absurd h0 hne
  ·exact h0
 obtain ⟨b3,o3,rfl⟩:∃ b3 o3,a3=some ⟨b3,o3,none⟩:=by
  rcases HS3.out.src with h0 | ⟨b3,o3,e,_⟩
  ·cases h0
  ·exact ⟨b3,o3,e⟩
 have HS3C:Hid (∀ (W:World),Below w.heap.size w W→∀ j v,(u8s [10])[j]? = some v→W.cell? ((⟨b3,o3,none⟩:Addr).add j)=some v):=Lib.hid fun W hW j v hv=>by
  have hj:j<1:=by have:=(List.getElem?_eq_some_iff.1 hv).1;rwa [u8s_len] at this
  rw [u8s_at _ _ hj] at hv
  rw [←Option.some.inj hv,Addr.add_lit]
  exact (HS3.out.below hW).cell j hj
 clear hm0 hmc hL hLm hTl hn hne hcell
 go_enter Tryz.func67,Tryz.ntmps67
 go_wp2_with (first
  | (go_at_call 92;(with_reducible refine KC.out.mono ?_);rintro e w1 ⟨rfl,q,rfl⟩;have HB1:=Lib.hid (below_drewN (Below.refl w.heap.size w) q))
  | (refine wpList_make_z rfl 22 (.tmp 43) (.tmp 43) rfl 5 (.int .u8 0) 1 1 T Tryz.underlying22 (by kernel_rfl) .i64 .i64 _ _ rfl rfl (by omega) (by omega) (by omega) (by omega) ?_;intro W hb1 ht1 hs1;have HBL:=Lib.hid hb1;have HTW:=Lib.hid ht1;have HSW:=Lib.hid hs1;clear hb1 ht1 hs1))
 have HBL:Hid (Blk W w.heap.size 5 (va (T*1) fun i=>(Value.int IntKind.u8 0).cells[i%(Value.int IntKind.u8 0).cells.size]!)):=Lib.hid HBL.out
 obtain ⟨g,hg⟩:∃ g,g=w.heap.size:=⟨_,rfl⟩
 rw [←hg] at HBL ⊢
 have hgw:w.heap.size≤g:=by rw [hg];exact Nat.le_refl _
 have HB0:Hid (Blk W g 5 (row T []).toArray):=Lib.hid (by have:=HBL.out;rwa [row_zero] at this)
 have HBW:Hid (Below w.heap.size w W):=Lib.hid (HB1.out.trans (HTW.out.below HB1.out.size fun _ h=>h.elim))
 have HGW:=Lib.hid hgw
 clear HBL HTW HSW HB1 hg hgw
 go_loopw [11,12,49] (fun v11 v12 v49 wr=>∃ (k:Nat) (out:List Nat) (st:Nat),k≤m∧v49 = .int .i64 k∧v11 = .int .i64 out.length∧v12 = .int .i64 st∧st≤n∧Hid (cn (s.drop st) [13,10]=m-k∧out++rpl [13,10] [10] (m-k) (s.drop st)=L)∧Blk wr g 5 (row T out).toArray∧Below w.heap.size w wr) (fun _ _ v49 _=>m-(intOf v49).toNat)
 case atStart=>exact ⟨0,[],0,Nat.zero_le _,rfl,rfl,rfl,Nat.zero_le _,Lib.hid ⟨by rw [List.drop_zero];exact HMC.out.symm,by rw [List.drop_zero];exact HL.out⟩,HB0.out,HBW.out⟩
 case round=>
  clear HB0 HBW
  obtain ⟨k,out,st,hk,rfl,rfl,rfl,hst,hrel,hbl,hbw⟩:=hrel
  have HBL:=Lib.hid hbl
  have HB:=Lib.hid hbw
  clear hbl hbw
  by_cases hlt:k<m
  ·have hkk:(k:Int)<m:=by omega
   obtain ⟨r,hr⟩:∃ r,m-k=r+1:=⟨m-k-1,by omega⟩
   have hrel2:=hrel.out
   rw [hr] at hrel2
   obtain ⟨h1,h2⟩:=hrel2
   obtain ⟨i,e1,e2,e3⟩:=cn_hit (by decide) h1
   rw [rpl_hit e1] at h2
   rw [List.length_drop,←HN.out] at e2
   simp only [List.length_cons,List.length_nil,Nat.zero_add,Nat.reduceAdd,List.drop_drop] at e2 e3 h2
   obtain ⟨sg,hsg⟩:∃ sg,sg=(s.drop st).take i:=⟨_,rfl⟩
   have hsgl:sg.length=i:=by rw [hsg,List.length_take,List.length_drop,←HN.out];omega
   rw [←hsg] at h2
   have hT2:out.length+(i+1)≤T:=by
    have hl2:=congrArg List.length h2
    simp only [List.length_append,List.length_cons,List.length_nil,hsgl] at hl2
    rw [HTL.out]
    omega
   have H2:=Lib.hid h2
   have H3:=Lib.hid e3
   have HSG:=Lib.hid hsg
   have HR:=Lib.hid hr
   have HSL:=Lib.hid hsgl
   obtain ⟨p,hp⟩:∃ p,p=out.length:=⟨_,rfl⟩
   rw [←hp] at hT2 ⊢
   have HP:=Lib.hid hp
   clear hp h2 e3 hsg hr hrel hsgl h1
   have hS:=HS.out.below HB.out
   have hfrom:=hS.from_ st (by rw [←HN.out];exact hst)
   have hcn:¬c=st:=by have:=HS.out.le;have:=HN.out;omega
   rw [cutA,if_neg hcn,Option.map_some,Nat.mul_one,Addr.add_lit] at hfrom
   have hcut1:=slice_l (some ⟨b,off,none⟩) n c st hst
   rw [cutA,if_neg hcn,Option.map_some,Nat.mul_one,Addr.add_lit] at hcut1
   have KI:=index_any ⟨b,off+st,none⟩ a2 (c-st) c2 (s.drop st) [13,10] wr hfrom (HS2.out.below HB.out) (by rw [List.length_drop,←HN.out];omega) (by decide) (by decide) (HT.out.grow HB.out)
   rw [List.length_drop,←HN.out] at KI
   have KI:Hid (Calls Tryz.prog 93 #[.slice (some ⟨b,off+st,none⟩) (n-st) (c-st),.slice a2 2 c2] wr fun e w'=>e = .returned (.int .i64 (i:Nat))∧Drew wr w'):=Lib.hid (by
    have e:Lib.index (u8L (s.drop st)) (u8L [13,10])=(i:Int):=e1
    rw [e] at KI;exact KI)
   clear e1
   have hSL:=HS.out.le
   have HFR:=Lib.hid hfrom
   have hcut2:=slice_l (some ⟨g,0,none⟩) T T p (by omega)
   have hpT:¬T=p:=by omega
   rw [cutA,if_neg hpT,Option.map_some,Nat.mul_one,Addr.add_lit,Nat.zero_add] at hcut2
   have hcut3:=slice_lh (some ⟨b,off,none⟩) n c st (st+i) (by omega) (by rw [←HN.out] at hSL;omega)
   rw [cutA,if_neg hcn,Option.map_some,Nat.mul_one,Addr.add_lit,Nat.add_sub_cancel_left] at hcut3
   have hsum:IntKind.i64.wrap ((st:Int)+i)=((st+i:Nat):Int):=by rw [IntKind.wrap_i64];omega
   obtain ⟨u,hu⟩:∃ u,u=st+i:=⟨_,rfl⟩
   rw [←hu] at hsum hcut3
   have HU:=Lib.hid hu
   clear hu hfrom
   go_wp2_with (go_at_call 93;(with_reducible refine KI.out.mono ?_);rintro e w2 ⟨rfl,q2,rfl⟩;have HB2:=Lib.hid (below_drewN HB.out q2);have HBL2:=Lib.hid (HBL.out.drewN q2))
   have HSC:Hid (∀ (W:World),Below wr.heap.size wr W→∀ j v,(u8s sg)[j]? = some v→W.cell? ((⟨b,off+st,none⟩:Addr).add j)=some v):=Lib.hid fun W hW j v hv=>by
    have hj:j<i:=by have:=(List.getElem?_eq_some_iff.1 hv).1;rw [u8s_len,HSL.out] at this;exact this
    rw [u8s_at _ _ (by rw [HSL.out];exact hj)] at hv
    rw [←Option.some.inj hv,HSG.out]
    have hd:j<(s.drop st).length:=by rw [List.length_drop,←HN.out];omega
    rw [Addr.add_lit,(HFR.out.below hW).cell j hd]
    simp [List.getD,hj]
   obtain ⟨z,hz⟩:∃ z,z=p+i:=⟨_,rfl⟩
   have hzT:z+1≤T:=by omega
   have hz1:z≤T:=by omega
   have hz2:¬T=z:=by omega
   have hz3:1≤T-z:=by omega
   have hcut4:=slice_l (some ⟨g,0,none⟩) T T z hz1
   rw [cutA,if_neg hz2,Option.map_some,Nat.mul_one,Addr.add_lit,Nat.zero_add] at hcut4
   have hwr:wrap64 ((p:Int)+((u8s sg).length:Int))=(z:Int):=by rw [u8s_len,HSL.out];unfold wrap64;omega
   have HZL:Hid ((out++sg).length=z):=Lib.hid (by rw [List.length_append,HSL.out,←HP.out];exact hz.symm)
   have HZ:=Lib.hid hz
   clear hz
   go_region_law (refine step_copy_splice rfl (.tmp 61) (.tmp 65) 22 22 rfl 5 Tryz.underlying22 (by kernel_rfl) (some ⟨g,p,none⟩) (some ⟨b,off+st,none⟩) (T-p) (T-p) i (c-st) (by simp [Act.eval,Act.put]) (by simp [Act.eval,Act.put]) g p (row T out) 5 HBL2.out (u8s sg) (by rw [u8s_len,HSL.out];exact (Nat.min_eq_left (by omega)).symm) (fun _=>⟨rfl,⟨b,off+st,none⟩,rfl,HSC.out _ (below_drew (below_drewN (Below.refl _ wr) q2))⟩) (by rw [u8s_len,HSL.out,row_len (by rw [←HP.out];omega)];omega) (u8s_one sg) w.heap.size w (below_drew HB2.out) HGW.out ?_;intro W4 hb4 hl4;have h4:=hb4.out;rw [HP.out,row_splice (by rw [HSL.out,←HP.out];omega)] at h4;have HB4:Hid (Blk W4 g 5 (row T (out++sg)).toArray):=Lib.hid h4;have HL4:=Lib.hid hl4;clear hb4 hl4 h4)
   all_goals
    go_wp2_with (refine wpList_copy_splice rfl (.tmp 71) (.tmp 72) 22 22 rfl 5 Tryz.underlying22 (by kernel_rfl) (some ⟨g,z,none⟩) (some ⟨b3,o3,none⟩) (T-z) (T-z) 1 c3 rfl rfl g z (row T (out++sg)) 5 HB4.out (u8s [10]) (show 1=Nat.min 1 (T-z) from (Nat.min_eq_left hz3).symm) (fun _=>⟨rfl,⟨b3,o3,none⟩,rfl,HS3C.out _ HL4.out⟩) (show z+1≤(row T (out++sg)).length by rw [row_len (by rw [HZL.out];exact hz1)];exact hzT) (u8s_one [10]) w.heap.size w HL4.out HGW.out ?_;intro W5 hb5 hl5;have h5:=hb5.out;rw [←HZL.out,row_splice (by rw [HZL.out];exact hzT)] at h5;have HB5:Hid (Blk W5 g 5 (row T (out++sg++[10])).toArray):=Lib.hid h5;have HL5:=Lib.hid hl5;clear hb5 hl5 h5)
   all_goals
    clear hwr hw2 hcut1 hcut2 hcut3 hcut4
    have hl5:(out++sg++[10]).length=z+1:=by rw [List.length_append,HZL.out];rfl
    have hu:=HU.out
    have hmk:m-(k+1)=r:=by have:=HR.out;omega
    have q1:k+1≤m:=by omega
    have q2:st+(i+2)≤n:=by omega
    have q3:m-(k+1)<m-k:=by omega
    have q4:(z:Int)+1≤1000000000:=by omega
    have q5 : -1000000000≤(z:Int)+1:=by omega
    have q6:(u:Int)+2=((st+(i+2):Nat):Int):=by rw [hu];omega
    have q7 : -1000000000≤(u:Int)+2:=by omega
    have q8:(u:Int)+2≤1000000000:=by omega
    have e5:wrap64 ((z:Int)+((u8s [10]).length:Int))=((out++sg++[10]).length:Int):=by
     rw [hl5,u8s_len]
     exact wrap_small q5 q4
    have e6:wrap64 ((u:Int)+2)=((st+(i+2):Nat):Int):=(wrap_small q7 q8).trans q6
    refine ⟨⟨k+1,out++sg++[10],st+(i+2),q1,rfl,congrArg _ e5,congrArg _ e6,q2,Lib.hid ⟨by rw [hmk];exact H3.out,by rw [hmk,←H2.out];simp⟩,HB5.out,HL5.out⟩,?_⟩
    exact q3
  ·obtain rfl:k=m:=by omega
   have h1:=hrel.out.2
   rw [Nat.sub_self] at h1
   have h1:out++s.drop st=L:=h1
   obtain ⟨sg,hsg⟩:∃ sg,sg=s.drop st:=⟨_,rfl⟩
   have hsgl:sg.length=n-st:=by rw [hsg,List.length_drop,←HN.out]
   rw [←hsg] at h1
   obtain ⟨p,hp⟩:∃ p,p=out.length:=⟨_,rfl⟩
   have hT2:p+(n-st)=T:=by
    have hl2:=congrArg List.length h1
    rw [List.length_append,hsgl] at hl2
    rw [HTL.out,hp]
    exact hl2
   rw [←hp]
   have HP:=Lib.hid hp
   have H1:=Lib.hid h1
   have HSG:=Lib.hid hsg
   have HSL:=Lib.hid hsgl
   have HT2:=Lib.hid hT2
   have hpT:p≤T:=by omega
   have HDL:Hid (n-st=Nat.min (n-st) (T-p)):=Lib.hid (by rw [show T-p=n-st by omega];exact (Nat.min_self _).symm)
   have HFR:=Lib.hid ((HS.out.below HB.out).from_ st (by rw [←HN.out];exact hst))
   have hcut5:=slice_l (some ⟨g,0,none⟩) T T p hpT
   have hcut6:=slice_l (some ⟨b,off,none⟩) n c st hst
   have hcut7:∀ W,(Instr.slice 22 (.slice (some ⟨g,0,none⟩) T T) (some (.int .i64 0)) (some (.int .i64 (T:Nat))) none).run Tryz.prog W = .ok (.slice (some ⟨g,0,none⟩) T T) W:=fun W=>by
    have h:=slice_lh (some ⟨g,0,none⟩) T T 0 T (Nat.zero_le _) (Nat.le_refl _) W
    rw [cutA_zero] at h
    exact h
   obtain ⟨DP,hDP⟩:∃ DP,DP=cutA (some ⟨g,0,none⟩) T p:=⟨_,rfl⟩
   obtain ⟨SP,hSP⟩:∃ SP,SP=cutA (some ⟨b,off,none⟩) c st:=⟨_,rfl⟩
   rw [←hDP] at hcut5
   rw [←hSP] at hcut6
   have HPOS:Hid (0<(u8s sg).length→DP=some ⟨g,p,none⟩∧∃ ad,SP=some ad∧∀ j v,(u8s sg)[j]? = some v→wr.drew.cell? (ad.add j)=some v):=Lib.hid fun h0=>by
    rw [u8s_len,hsgl] at h0
    have hcn:¬c=st:=by have:=HS.out.le;rw [←HN.out] at this;omega
    rw [hDP,cutA,if_neg (by omega),Option.map_some,Nat.mul_one,Addr.add_lit,Nat.zero_add]
    rw [hSP,cutA,if_neg hcn,Option.map_some,Nat.mul_one,Addr.add_lit]
    refine ⟨rfl,⟨b,off+st,none⟩,rfl,fun j v hv=>?_⟩
    have hfr:=HFR.out
    rw [cutA,if_neg hcn,Option.map_some,Nat.mul_one,Addr.add_lit,←HSG.out] at hfr
    have hj:j<sg.length:=by have:=(List.getElem?_eq_some_iff.1 hv).1;rwa [u8s_len] at this
    rw [u8s_at _ _ hj] at hv
    rw [←Option.some.inj hv,Addr.add_lit]
    exact (hfr.below (below_drew (Below.refl _ wr))).cell j hj
   have HF:Hid (p+(u8s sg).length≤(row T out).length):=Lib.hid (by rw [u8s_len,hsgl,row_len (by rw [←hp];exact hpT)];omega)
   have hwr:wrap64 ((p:Int)+((u8s sg).length:Int))=(T:Int):=by rw [u8s_len,hsgl];unfold wrap64;omega
   clear hDP hSP hsg hp h1 hsgl hT2 hrel hw2
   go_wp2
   go_region_law (refine step_copy_splice rfl (.tmp 123) (.tmp 126) 22 22 rfl 5 Tryz.underlying22 (by kernel_rfl) DP SP (T-p) (T-p) (n-st) (c-st) (by simp [Act.eval,Act.put]) (by simp [Act.eval,Act.put]) g p (row T out) 5 HBL.out (u8s sg) (by rw [u8s_len,HSL.out];exact HDL.out) HPOS.out HF.out (u8s_one sg) w.heap.size w (below_drew HB.out) HGW.out ?_;intro W4 hb4 hl4;have h4:=hb4.out;rw [HP.out,row_splice (by rw [HSL.out,←HP.out,HT2.out];exact Nat.le_refl _),H1.out,row_full HTL.out] at h4;have HB4:Hid (Blk W4 g 5 (u8s L).toArray):=Lib.hid h4;have HL4:=Lib.hid hl4;clear hb4 hl4 h4)
   all_goals
    go_wp2
    go_ret
    exact blk_own HB4.out HTL.out HGW.out HTM.out HL4.out
set_option maxHeartbeats 6400000 in
theorem replace1 (ao a2 a3:Option Addr) (c c2 c3:Nat) (s:List Nat) (w:World) (h:Sl w ao c s) (h2:Sl w a2 c2 [13]) (h3:Sl w a3 c3 [10]) (hm:s.length≤1000000) (hT:TU w) :
  Calls Tryz.prog 67 #[.slice ao s.length c,.slice a2 1 c2,.slice a3 1 c3,.int .i64 (-1)] w (OwnB (rplA [13] [10] s) w):=by
 have hbs:=h.bs
 have KC:=count_any ao a2 c c2 s [13] w h h2 (by omega) (by decide) (by decide) hT
 have KC:Hid (Calls Tryz.prog 92 #[.slice ao s.length c,.slice a2 1 c2] w fun e w'=>e = .returned (.int .i64 (cn s [13]:Nat))∧Drew w w'):=Lib.hid KC
 obtain ⟨m,hmc⟩:∃ m,m=cn s [13]:=⟨_,rfl⟩
 rw [←hmc] at KC
 have HMC:=Lib.hid hmc
 have HS:=Lib.hid h
 have HS2:=Lib.hid h2
 have HS3:=Lib.hid h3
 have HT:=Lib.hid hT
 clear h h2 h3 hT
 by_cases hm0:m=0
 ·subst hm0
  have e:rplA [13] [10] s=s:=by unfold rplA;rw [←hmc];rfl
  rw [e]
  clear hmc e
  go_enter Tryz.func67,Tryz.ntmps67
  go_wp2_with (first
   | (go_at_call 92;(with_reducible refine KC.out.mono ?_);rintro e w1 ⟨rfl,q,rfl⟩;have HB1:=Lib.hid (below_drewN (Below.refl w.heap.size w) q);have HCA:=Lib.hid (HS.out.drewN q).cells)
   | (at_builtin;refine wpList_append_x at22 rfl (.const (.slice none 0 0)) (.tmp 24) rfl w.heap.size (.slice none 0 0) (.slice ao s.length c) 0 s.length [] (u8s s) rfl rfl ⟨rfl,.inl ⟨rfl,rfl⟩⟩ HCA.out (by rw [u8s_len,Nat.mul_one]) (u8s_one s) (by exact Nat.le_refl _) (by omega) (by omega) ?_;intro ao4 c4 w4 hA;have HA:=Lib.hid hA;clear hA))
  go_ret
  have hA:=HA.out
  rw [Nat.zero_add,List.nil_append] at hA
  exact ⟨ao4,c4,rfl,hA.own,HB1.out.trans (hA.below (m:=0) (ys:=[]) ⟨rfl,.inl ⟨rfl,rfl⟩⟩ (Nat.le_refl _))⟩
 have hm0':¬(m:Int)=0:=by omega
 have hlen:=rpl_len [13] [10] (by decide) m s hmc.symm
 have hmle:=cn_le (old:=[13]) (by decide) m s hmc.symm
 simp only [List.length_cons,List.length_nil,Nat.zero_add] at hlen hmle
 obtain ⟨L,hL⟩:∃ L,L=rplA [13] [10] s:=⟨_,rfl⟩
 have hLm:rpl [13] [10] m s=L:=by rw [hL,hmc];rfl
 have HLB:Hid (Bs L):=Lib.hid (by rw [←hLm];exact rpl_bs (fun x hx=>by simp at hx;omega) m s hbs)
 rw [hLm] at hlen
 obtain ⟨T,hTl⟩:∃ T,T=L.length:=⟨_,rfl⟩
 rw [←hTl] at hlen
 rw [←hL]
 have hw2:wrap64 (s.length:Int)=(T:Int):=by unfold wrap64;omega
 have HL:=Lib.hid hLm
 have HTL:=Lib.hid hTl
 have HTM:Hid (T≤maxLen):=Lib.hid (by unfold maxLen;omega)
 obtain ⟨n,hn⟩:∃ n,n=s.length:=⟨_,rfl⟩
 have HN:=Lib.hid hn
 rw [←hn] at hlen hmle hm hw2 KC ⊢
 have hne:s≠[]:=by intro e;rw [e] at hn;simp at hn;omega
 obtain ⟨b,off,rfl,hcell⟩:∃ b off,ao=some ⟨b,off,none⟩∧∀ j,j<s.length→w.cell? ⟨b,off+j,none⟩=some (.int .u8 (s.getD j 0:Nat)):=by
  rcases HS.out.src with h0 | h0
  ·exact absurd h0 hne
  ·exact h0
 obtain ⟨b3,o3,rfl⟩:∃ b3 o3,a3=some ⟨b3,o3,none⟩:=by
  rcases HS3.out.src with h0 | ⟨b3,o3,e,_⟩
  ·cases h0
  ·exact ⟨b3,o3,e⟩
 have HS3C:Hid (∀ (W:World),Below w.heap.size w W→∀ j v,(u8s [10])[j]? = some v→W.cell? ((⟨b3,o3,none⟩:Addr).add j)=some v):=Lib.hid fun W hW j v hv=>by
  have hj:j<1:=by have:=(List.getElem?_eq_some_iff.1 hv).1;rwa [u8s_len] at this
  rw [u8s_at _ _ hj] at hv
  rw [←Option.some.inj hv,Addr.add_lit]
  exact (HS3.out.below hW).cell j hj
 clear hm0 hmc hL hLm hTl hn hne hcell
 go_enter Tryz.func67,Tryz.ntmps67
 go_wp2_with (first
  | (go_at_call 92;(with_reducible refine KC.out.mono ?_);rintro e w1 ⟨rfl,q,rfl⟩;have HB1:=Lib.hid (below_drewN (Below.refl w.heap.size w) q))
  | (refine wpList_make_z rfl 22 (.tmp 43) (.tmp 43) rfl 5 (.int .u8 0) 1 1 T Tryz.underlying22 (by kernel_rfl) .i64 .i64 _ _ rfl rfl (by omega) (by omega) (by omega) (by omega) ?_;intro W hb1 ht1 hs1;have HBL:=Lib.hid hb1;have HTW:=Lib.hid ht1;have HSW:=Lib.hid hs1;clear hb1 ht1 hs1))
 have HBL:Hid (Blk W w.heap.size 5 (va (T*1) fun i=>(Value.int IntKind.u8 0).cells[i%(Value.int IntKind.u8 0).cells.size]!)):=Lib.hid HBL.out
 obtain ⟨g,hg⟩:∃ g,g=w.heap.size:=⟨_,rfl⟩
 rw [←hg] at HBL ⊢
 have hgw:w.heap.size≤g:=by rw [hg];exact Nat.le_refl _
 have HB0:Hid (Blk W g 5 (row T []).toArray):=Lib.hid (by have:=HBL.out;rwa [row_zero] at this)
 have HBW:Hid (Below w.heap.size w W):=Lib.hid (HB1.out.trans (HTW.out.below HB1.out.size fun _ h=>h.elim))
 have HGW:=Lib.hid hgw
 clear HBL HTW HSW HB1 hg hgw
 go_loopw [11,12,49] (fun v11 v12 v49 wr=>∃ (k:Nat) (out:List Nat) (st:Nat),k≤m∧v49 = .int .i64 k∧v11 = .int .i64 out.length∧v12 = .int .i64 st∧st≤n∧Hid (cn (s.drop st) [13]=m-k∧out++rpl [13] [10] (m-k) (s.drop st)=L)∧Blk wr g 5 (row T out).toArray∧Below w.heap.size w wr) (fun _ _ v49 _=>m-(intOf v49).toNat)
 case atStart=>exact ⟨0,[],0,Nat.zero_le _,rfl,rfl,rfl,Nat.zero_le _,Lib.hid ⟨by rw [List.drop_zero];exact HMC.out.symm,by rw [List.drop_zero];exact HL.out⟩,HB0.out,HBW.out⟩
 case round=>
  clear HB0 HBW
  obtain ⟨k,out,st,hk,rfl,rfl,rfl,hst,hrel,hbl,hbw⟩:=hrel
  have HBL:=Lib.hid hbl
  have HB:=Lib.hid hbw
  clear hbl hbw
  by_cases hlt:k<m
  ·have hkk:(k:Int)<m:=by omega
   obtain ⟨r,hr⟩:∃ r,m-k=r+1:=⟨m-k-1,by omega⟩
   have hrel2:=hrel.out
   rw [hr] at hrel2
   obtain ⟨h1,h2⟩:=hrel2
   obtain ⟨i,e1,e2,e3⟩:=cn_hit (by decide) h1
   rw [rpl_hit e1] at h2
   rw [List.length_drop,←HN.out] at e2
   simp only [List.length_cons,List.length_nil,Nat.zero_add,List.drop_drop] at e2 e3 h2
   obtain ⟨sg,hsg⟩:∃ sg,sg=(s.drop st).take i:=⟨_,rfl⟩
   have hsgl:sg.length=i:=by rw [hsg,List.length_take,List.length_drop,←HN.out];omega
   rw [←hsg] at h2
   have hT2:out.length+(i+1)≤T:=by
    have hl2:=congrArg List.length h2
    simp only [List.length_append,List.length_cons,List.length_nil,hsgl] at hl2
    rw [HTL.out]
    omega
   have H2:=Lib.hid h2
   have H3:=Lib.hid e3
   have HSG:=Lib.hid hsg
   have HR:=Lib.hid hr
   have HSL:=Lib.hid hsgl
   obtain ⟨p,hp⟩:∃ p,p=out.length:=⟨_,rfl⟩
   rw [←hp] at hT2 ⊢
   have HP:=Lib.hid hp
   clear hp h2 e3 hsg hr hrel hsgl h1
   have hS:=HS.out.below HB.out
   have hfrom:=hS.from_ st (by rw [←HN.out];exact hst)
   have hcn:¬c=st:=by have:=HS.out.le;have:=HN.out;omega
   rw [cutA,if_neg hcn,Option.map_some,Nat.mul_one,Addr.add_lit] at hfrom
   have hcut1:=slice_l (some ⟨b,off,none⟩) n c st hst
   rw [cutA,if_neg hcn,Option.map_some,Nat.mul_one,Addr.add_lit] at hcut1
   have KI:=index_any ⟨b,off+st,none⟩ a2 (c-st) c2 (s.drop st) [13] wr hfrom (HS2.out.below HB.out) (by rw [List.length_drop,←HN.out];omega) (by decide) (by decide) (HT.out.grow HB.out)
   rw [List.length_drop,←HN.out] at KI
   have KI:Hid (Calls Tryz.prog 93 #[.slice (some ⟨b,off+st,none⟩) (n-st) (c-st),.slice a2 1 c2] wr fun e w'=>e = .returned (.int .i64 (i:Nat))∧Drew wr w'):=Lib.hid (by
    have e:Lib.index (u8L (s.drop st)) (u8L [13])=(i:Int):=e1
    rw [e] at KI;exact KI)
   clear e1
   have hSL:=HS.out.le
   have HFR:=Lib.hid hfrom
   have hcut2:=slice_l (some ⟨g,0,none⟩) T T p (by omega)
   have hpT:¬T=p:=by omega
   rw [cutA,if_neg hpT,Option.map_some,Nat.mul_one,Addr.add_lit,Nat.zero_add] at hcut2
   have hcut3:=slice_lh (some ⟨b,off,none⟩) n c st (st+i) (by omega) (by rw [←HN.out] at hSL;omega)
   rw [cutA,if_neg hcn,Option.map_some,Nat.mul_one,Addr.add_lit,Nat.add_sub_cancel_left] at hcut3
   have hsum:IntKind.i64.wrap ((st:Int)+i)=((st+i:Nat):Int):=by rw [IntKind.wrap_i64];omega
   obtain ⟨u,hu⟩:∃ u,u=st+i:=⟨_,rfl⟩
   rw [←hu] at hsum hcut3
   have HU:=Lib.hid hu
   clear hu hfrom
   go_wp2_with (go_at_call 93;(with_reducible refine KI.out.mono ?_);rintro e w2 ⟨rfl,q2,rfl⟩;have HB2:=Lib.hid (below_drewN HB.out q2);have HBL2:=Lib.hid (HBL.out.drewN q2))
   have HSC:Hid (∀ (W:World),Below wr.heap.size wr W→∀ j v,(u8s sg)[j]? = some v→W.cell? ((⟨b,off+st,none⟩:Addr).add j)=some v):=Lib.hid fun W hW j v hv=>by
    have hj:j<i:=by have:=(List.getElem?_eq_some_iff.1 hv).1;rw [u8s_len,HSL.out] at this;exact this
    rw [u8s_at _ _ (by rw [HSL.out];exact hj)] at hv
    rw [←Option.some.inj hv,HSG.out]
    have hd:j<(s.drop st).length:=by rw [List.length_drop,←HN.out];omega
    rw [Addr.add_lit,(HFR.out.below hW).cell j hd]
    simp [List.getD,hj]
   obtain ⟨z,hz⟩:∃ z,z=p+i:=⟨_,rfl⟩
   have hzT:z+1≤T:=by omega
   have hz1:z≤T:=by omega
   have hz2:¬T=z:=by omega
   have hz3:1≤T-z:=by omega
   have hcut4:=slice_l (some ⟨g,0,none⟩) T T z hz1
   rw [cutA,if_neg hz2,Option.map_some,Nat.mul_one,Addr.add_lit,Nat.zero_add] at hcut4
   have hwr:wrap64 ((p:Int)+((u8s sg).length:Int))=(z:Int):=by rw [u8s_len,HSL.out];unfold wrap64;omega
   have HZL:Hid ((out++sg).length=z):=Lib.hid (by rw [List.length_append,HSL.out,←HP.out];exact hz.symm)
   have HZ:=Lib.hid hz
   clear hz
   go_region_law (refine step_copy_splice rfl (.tmp 61) (.tmp 65) 22 22 rfl 5 Tryz.underlying22 (by kernel_rfl) (some ⟨g,p,none⟩) (some ⟨b,off+st,none⟩) (T-p) (T-p) i (c-st) (by simp [Act.eval,Act.put]) (by simp [Act.eval,Act.put]) g p (row T out) 5 HBL2.out (u8s sg) (by rw [u8s_len,HSL.out];exact (Nat.min_eq_left (by omega)).symm) (fun _=>⟨rfl,⟨b,off+st,none⟩,rfl,HSC.out _ (below_drew (below_drewN (Below.refl _ wr) q2))⟩) (by rw [u8s_len,HSL.out,row_len (by rw [←HP.out];omega)];omega) (u8s_one sg) w.heap.size w (below_drew HB2.out) HGW.out ?_;intro W4 hb4 hl4;have h4:=hb4.out;rw [HP.out,row_splice (by rw [HSL.out,←HP.out];omega)] at h4;have HB4:Hid (Blk W4 g 5 (row T (out++sg)).toArray):=Lib.hid h4;have HL4:=Lib.hid hl4;clear hb4 hl4 h4)
   all_goals
    go_wp2_with (refine wpList_copy_splice rfl (.tmp 71) (.tmp 72) 22 22 rfl 5 Tryz.underlying22 (by kernel_rfl) (some ⟨g,z,none⟩) (some ⟨b3,o3,none⟩) (T-z) (T-z) 1 c3 rfl rfl g z (row T (out++sg)) 5 HB4.out (u8s [10]) (show 1=Nat.min 1 (T-z) from (Nat.min_eq_left hz3).symm) (fun _=>⟨rfl,⟨b3,o3,none⟩,rfl,HS3C.out _ HL4.out⟩) (show z+1≤(row T (out++sg)).length by rw [row_len (by rw [HZL.out];exact hz1)];exact hzT) (u8s_one [10]) w.heap.size w HL4.out HGW.out ?_;intro W5 hb5 hl5;have h5:=hb5.out;rw [←HZL.out,row_splice (by rw [HZL.out];exact hzT)] at h5;have HB5:Hid (Blk W5 g 5 (row T (out++sg++[10])).toArray):=Lib.hid h5;have HL5:=Lib.hid hl5;clear hb5 hl5 h5)
   all_goals
    clear hwr hw2 hcut1 hcut2 hcut3 hcut4
    have hl5:(out++sg++[10]).length=z+1:=by rw [List.length_append,HZL.out];rfl
    have hu:=HU.out
    have hmk:m-(k+1)=r:=by have:=HR.out;omega
    have q1:k+1≤m:=by omega
    have q2:st+(i+1)≤n:=by omega
    have q3:m-(k+1)<m-k:=by omega
    have q4:(z:Int)+1≤1000000000:=by omega
    have q5 : -1000000000≤(z:Int)+1:=by omega
    have q6:(u:Int)+1=((st+(i+1):Nat):Int):=by rw [hu];omega
    have q7 : -1000000000≤(u:Int)+1:=by omega
    have q8:(u:Int)+1≤1000000000:=by omega
    have e5:wrap64 ((z:Int)+((u8s [10]).length:Int))=((out++sg++[10]).length:Int):=by
     rw [hl5,u8s_len]
     exact wrap_small q5 q4
    have e6:wrap64 ((u:Int)+1)=((st+(i+1):Nat):Int):=(wrap_small q7 q8).trans q6
    refine ⟨⟨k+1,out++sg++[10],st+(i+1),q1,rfl,congrArg _ e5,congrArg _ e6,q2,Lib.hid ⟨by rw [hmk];exact H3.out,by rw [hmk,←H2.out];simp⟩,HB5.out,HL5.out⟩,?_⟩
    exact q3
  ·obtain rfl:k=m:=by omega
   have h1:=hrel.out.2
   rw [Nat.sub_self] at h1
   have h1:out++s.drop st=L:=h1
   obtain ⟨sg,hsg⟩:∃ sg,sg=s.drop st:=⟨_,rfl⟩
   have hsgl:sg.length=n-st:=by rw [hsg,List.length_drop,←HN.out]
   rw [←hsg] at h1
   obtain ⟨p,hp⟩:∃ p,p=out.length:=⟨_,rfl⟩
   have hT2:p+(n-st)=T:=by
    have hl2:=congrArg List.length h1
    rw [List.length_append,hsgl] at hl2
    rw [HTL.out,hp]
    exact hl2
   rw [←hp]
   have HP:=Lib.hid hp
   have H1:=Lib.hid h1
   have HSG:=Lib.hid hsg
   have HSL:=Lib.hid hsgl
   have HT2:=Lib.hid hT2
   have hpT:p≤T:=by omega
   have HDL:Hid (n-st=Nat.min (n-st) (T-p)):=Lib.hid (by rw [show T-p=n-st by omega];exact (Nat.min_self _).symm)
   have HFR:=Lib.hid ((HS.out.below HB.out).from_ st (by rw [←HN.out];exact hst))
   have hcut5:=slice_l (some ⟨g,0,none⟩) T T p hpT
   have hcut6:=slice_l (some ⟨b,off,none⟩) n c st hst
   have hcut7:∀ W,(Instr.slice 22 (.slice (some ⟨g,0,none⟩) T T) (some (.int .i64 0)) (some (.int .i64 (T:Nat))) none).run Tryz.prog W = .ok (.slice (some ⟨g,0,none⟩) T T) W:=fun W=>by
    have h:=slice_lh (some ⟨g,0,none⟩) T T 0 T (Nat.zero_le _) (Nat.le_refl _) W
    rw [cutA_zero] at h
    exact h
   obtain ⟨DP,hDP⟩:∃ DP,DP=cutA (some ⟨g,0,none⟩) T p:=⟨_,rfl⟩
   obtain ⟨SP,hSP⟩:∃ SP,SP=cutA (some ⟨b,off,none⟩) c st:=⟨_,rfl⟩
   rw [←hDP] at hcut5
   rw [←hSP] at hcut6
   have HPOS:Hid (0<(u8s sg).length→DP=some ⟨g,p,none⟩∧∃ ad,SP=some ad∧∀ j v,(u8s sg)[j]? = some v→wr.drew.cell? (ad.add j)=some v):=Lib.hid fun h0=>by
    rw [u8s_len,hsgl] at h0
    have hcn:¬c=st:=by have:=HS.out.le;rw [←HN.out] at this;omega
    rw [hDP,cutA,if_neg (by omega),Option.map_some,Nat.mul_one,Addr.add_lit,Nat.zero_add]
    rw [hSP,cutA,if_neg hcn,Option.map_some,Nat.mul_one,Addr.add_lit]
    refine ⟨rfl,⟨b,off+st,none⟩,rfl,fun j v hv=>?_⟩
    have hfr:=HFR.out
    rw [cutA,if_neg hcn,Option.map_some,Nat.mul_one,Addr.add_lit,←HSG.out] at hfr
    have hj:j<sg.length:=by have:=(List.getElem?_eq_some_iff.1 hv).1;rwa [u8s_len] at this
    rw [u8s_at _ _ hj] at hv
    rw [←Option.some.inj hv,Addr.add_lit]
    exact (hfr.below (below_drew (Below.refl _ wr))).cell j hj
   have HF:Hid (p+(u8s sg).length≤(row T out).length):=Lib.hid (by rw [u8s_len,hsgl,row_len (by rw [←hp];exact hpT)];omega)
   have hwr:wrap64 ((p:Int)+((u8s sg).length:Int))=(T:Int):=by rw [u8s_len,hsgl];unfold wrap64;omega
   clear hDP hSP hsg hp h1 hsgl hT2 hrel hw2
   go_wp2
   go_region_law (refine step_copy_splice rfl (.tmp 123) (.tmp 126) 22 22 rfl 5 Tryz.underlying22 (by kernel_rfl) DP SP (T-p) (T-p) (n-st) (c-st) (by simp [Act.eval,Act.put]) (by simp [Act.eval,Act.put]) g p (row T out) 5 HBL.out (u8s sg) (by rw [u8s_len,HSL.out];exact HDL.out) HPOS.out HF.out (u8s_one sg) w.heap.size w (below_drew HB.out) HGW.out ?_;intro W4 hb4 hl4;have h4:=hb4.out;rw [HP.out,row_splice (by rw [HSL.out,←HP.out,HT2.out];exact Nat.le_refl _),H1.out,row_full HTL.out] at h4;have HB4:Hid (Blk W4 g 5 (u8s L).toArray):=Lib.hid h4;have HL4:=Lib.hid hl4;clear hb4 hl4 h4)
   all_goals
    go_wp2
    go_ret
    exact blk_own HB4.out HTL.out HGW.out HTM.out HL4.out
end
section
open Go.RowKit U
def SlTo (L:List Nat) (w:World) (e:Ending) (w':World):Prop:=∃ ao c,e = .returned (.slice ao L.length c)∧Sl w' ao c L∧Below w.heap.size w w'
theorem OwnB.sl {L:List Nat} {w:World} {e:Ending} {w':World} (hb:Bs L) (h:OwnB L w e w'):SlTo L w e w':=by
 obtain ⟨ao,c,he,ho,hw⟩:=h
 exact ⟨ao,c,he,own_sl ho hb,hw⟩
theorem sl_text (w:World) (xs:List Nat) (cs:Array Value) (n q:Nat) (z:Nat × Nat) (hq:q=w.heap.size) (hn:xs.length=n) (hc:cs=(u8s xs).toArray) (hb:Bs xs) (hm:n≤1000):Sl (w.alloc (.cells cs 5 z)) (some ⟨q,0,none⟩) n xs:=by
 subst hq hn hc
 refine ⟨.inr ⟨w.heap.size,0,rfl,fun j hj=>?_⟩,Nat.le_refl _,by unfold maxLen;omega,(fun h=>by cases h),hb⟩
 rw [Nat.zero_add,cell_of_row _ _ j _ 5 z (heap_alloc_new w _)]
 simpa using u8s_at xs j hj
theorem all2 (ao a2 a3:Option Addr) (c c2 c3:Nat) (s:List Nat) (w:World) (h:Sl w ao c s) (h2:Sl w a2 c2 [13,10]) (h3:Sl w a3 c3 [10]) (hm:s.length≤1000000) (hT:TU w) :
  Calls Tryz.prog 41 #[.slice ao s.length c,.slice a2 2 c2,.slice a3 1 c3] w (SlTo (r1 s) w):=by
 have K:=replace2 ao a2 a3 c c2 c3 s w h h2 h3 hm hT
 rw [rplA_r1 h.bs] at K
 have K:=Lib.hid (K.mono fun e w' h'=>h'.sl (r1_bs h.bs))
 obtain ⟨L,hL⟩:∃ L,L=r1 s:=⟨_,rfl⟩
 rw [←hL] at K ⊢
 clear h h2 h3 hT hL
 go_enter Tryz.func41,Tryz.ntmps41
 go_wp2_with (go_at_call 67;(with_reducible refine K.out.mono ?_);rintro e w1 ⟨a4,c4,rfl,hs,hb⟩;have HS:=Lib.hid hs;have HB:=Lib.hid hb;clear hs hb)
 go_ret
 exact ⟨a4,c4,rfl,HS.out,HB.out⟩
theorem r2_bs {s:List Nat} (hb:Bs s):Bs (r2 s):=by
 rw [←rplA_r2 hb];exact rpl_bs (fun x hx=>by simp at hx;omega) _ _ hb
theorem all1 (ao a2 a3:Option Addr) (c c2 c3:Nat) (s:List Nat) (w:World) (h:Sl w ao c s) (h2:Sl w a2 c2 [13]) (h3:Sl w a3 c3 [10]) (hm:s.length≤1000000) (hT:TU w) :
  Calls Tryz.prog 41 #[.slice ao s.length c,.slice a2 1 c2,.slice a3 1 c3] w (SlTo (r2 s) w):=by
 have K:=replace1 ao a2 a3 c c2 c3 s w h h2 h3 hm hT
 rw [rplA_r2 h.bs] at K
 have K:=Lib.hid (K.mono fun e w' h'=>h'.sl (r2_bs h.bs))
 obtain ⟨L,hL⟩:∃ L,L=r2 s:=⟨_,rfl⟩
 rw [←hL] at K ⊢
 clear h h2 h3 hT hL
 go_enter Tryz.func41,Tryz.ntmps41
 go_wp2_with (go_at_call 67;(with_reducible refine K.out.mono ?_);rintro e w1 ⟨a4,c4,rfl,hs,hb⟩;have HS:=Lib.hid hs;have HB:=Lib.hid hb;clear hs hb)
 go_ret
 exact ⟨a4,c4,rfl,HS.out,HB.out⟩
theorem conv_two (w:World) (D C:Array Value) (z:Nat × Nat) (n c:Nat):(convert 22 22 (.slice (some ⟨w.heap.size+1,0,none⟩) n c)).run Tryz.prog ((w.alloc (.cells D 5 z)).alloc (.cells C 5)) = .ok (.slice (some ⟨w.heap.size+1,0,none⟩) n c) ((w.alloc (.cells D 5 z)).alloc (.cells C 5 (C.size,C.size+1))):=by
 have:=Lib.run_convert_bytes_const (P:=Tryz.prog) (w.alloc (.cells D 5 z)) 22 5 C n c Tryz.underlying22 Tryz.underlying5
 rwa [alloc_size] at this
set_option maxHeartbeats 1600000 in
theorem Lines_any (ao:Option Addr) (c:Nat) (s:List Nat) (w:World) (h:Sl w ao c s) (hm:s.length≤1000000) (hT:TU w) :
  Calls Tryz.prog 22 #[.slice ao s.length c] w (SlTo (lin false s) w):=by
 have hc:=fun (w:World) (C:Array Value) (n c:Nat)=>Lib.run_convert_bytes_const (P:=Tryz.prog) w 22 5 C n c Tryz.underlying22 Tryz.underlying5
 have hc2:=conv_two
 obtain ⟨W1,hW1⟩:∃ W1,W1=w.alloc (.cells #[.int .u8 13,.int .u8 10] 5 (2,3)):=⟨_,rfl⟩
 obtain ⟨W2,hW2⟩:∃ W2,W2=W1.alloc (.cells #[.int .u8 10] 5 (1,2)):=⟨_,rfl⟩
 have hz1:W1.heap.size=w.heap.size+1:=by rw [hW1,alloc_size]
 have b1:Below w.heap.size w W1:=by rw [hW1];exact (Below.refl _ w).alloc (Nat.le_refl _) _
 have b12:Below W1.heap.size W1 W2:=by rw [hW2];exact (Below.refl _ W1).alloc (Nat.le_refl _) _
 have b2:Below w.heap.size w W2:=b1.trans (b12.mono b1.size)
 have s1:Sl W2 (some ⟨w.heap.size,0,none⟩) 2 [13,10]:=Sl.below (by rw [hW1];exact sl_text w [13,10] _ 2 _ _ rfl rfl rfl (fun x hx=>by simp at hx;omega) (by decide)) b12
 have s2:Sl W2 (some ⟨w.heap.size+1,0,none⟩) 1 [10]:=by rw [hW2];exact sl_text W1 [10] _ 1 _ _ hz1.symm rfl rfl (fun x hx=>by simp at hx;omega) (by decide)
 have K1:=all2 ao _ _ c 2 1 s W2 (h.below b2) s1 s2 hm (hT.grow b2)
 have hr1:=r1_len s
 rw [←lin_r s]
 obtain ⟨L,hL⟩:∃ L,L=r1 s:=⟨_,rfl⟩
 rw [←hL] at K1 hr1 ⊢
 have KX:Hid (∀ (W:World) (a:Option Addr) (c:Nat),Sl W a c L→TU W→Calls Tryz.prog 41 #[.slice a L.length c,.slice (some ⟨W.heap.size,0,none⟩) 1 1,.slice (some ⟨W.heap.size+1,0,none⟩) 1 1] ((W.alloc (.cells #[.int .u8 13] 5 (1,2))).alloc (.cells #[.int .u8 10] 5 (1,2))) fun e w'=>SlTo (r2 L) W e w'):=Lib.hid fun W a c hs hT=>by
  have b1:Below W.heap.size W (W.alloc (.cells #[.int .u8 13] 5 (1,2))):=(Below.refl _ W).alloc (Nat.le_refl _) _
  have b12:Below (W.alloc (.cells #[.int .u8 13] 5 (1,2))).heap.size (W.alloc (.cells #[.int .u8 13] 5 (1,2))) ((W.alloc (.cells #[.int .u8 13] 5 (1,2))).alloc (.cells #[.int .u8 10] 5 (1,2))):=(Below.refl _ _).alloc (Nat.le_refl _) _
  have b2:=b1.trans (b12.mono b1.size)
  refine (all1 a _ _ c 1 1 L _ (hs.below b2) (Sl.below (sl_text W [13] _ 1 _ _ rfl rfl rfl (fun x hx=>by simp at hx;omega) (by decide)) b12) (sl_text _ [10] _ 1 _ _ (alloc_size _ _).symm rfl rfl (fun x hx=>by simp at hx;omega) (by decide)) (by omega) (hT.grow b2)).mono ?_
  rintro e w' ⟨ao,c',he,hs',hb'⟩
  exact ⟨ao,c',he,hs',b2.trans (hb'.mono b2.size)⟩
 have HK1:=Lib.hid K1
 have HB2:=Lib.hid b2
 have HT2:=Lib.hid (hT.grow b2)
 obtain ⟨Z,hZ⟩:∃ Z,Z=L.length:=⟨_,rfl⟩
 unfold SlTo at HK1
 rw [←hZ] at HK1 KX
 obtain ⟨M,hM⟩:∃ M,M=r2 L:=⟨_,rfl⟩
 rw [←hM] at KX ⊢
 clear h hT hz1 b1 b12 b2 s1 s2 hL hr1 K1 hZ hM
 go_enter Tryz.func22,Tryz.ntmps22
 go_wp2_with (first
  | (rw [←hW1,←hW2];clear hW1 hW2;go_at_call 41;(with_reducible refine HK1.out.mono ?_);rintro e w3 ⟨a4,c4,rfl,hs,hb⟩;have HS:=Lib.hid hs;have HB:=Lib.hid (HB2.out.trans (hb.mono HB2.out.size));have HT3:=Lib.hid (HT2.out.grow hb);clear hs hb)
  | (go_at_call 41;(with_reducible refine (KX.out w3 a4 c4 HS.out HT3.out).mono ?_);rintro e w5 ⟨a6,c6,rfl,hs,hb⟩;have HS5:=Lib.hid hs;have HB5:=Lib.hid (HB.out.trans (hb.mono HB.out.size));clear hs hb))
 go_ret
 exact ⟨a6,c6,rfl,HS5.out,HB5.out⟩
def stripP (xs:List Nat):List Nat:=if xs.take 3=[239,187,191] then xs.drop 3 else xs
theorem has3 {xs:List Nat} (hb:Bs xs):Lib.hasPrefix (u8L xs) (u8L [239,187,191])=decide (xs.take 3=[239,187,191]):=by
 unfold Lib.hasPrefix
 match xs,hb with
 | [],_=>rfl
 | [a],_=>simp [u8L,List.isPrefixOf]
 | [a,b],_=>simp [u8L,List.isPrefixOf]
 | a::b::c::t,hb=>
  show (UInt8.ofNat 239 == UInt8.ofNat a && (UInt8.ofNat 187 == UInt8.ofNat b && (UInt8.ofNat 191 == UInt8.ofNat c && true)))=_
  rw [of_eq (hb a (by simp)) (by decide),of_eq (hb b (by simp)) (by decide),of_eq (hb c (by simp)) (by decide)]
  simp
theorem trim_any (ao a2:Option Addr) (c c2:Nat) (s:List Nat) (w:World) (h:Sl w ao c s) (h2:Sl w a2 c2 [239,187,191]) (hm:s.length≤1000000) :
  Calls Tryz.prog 38 #[.slice ao s.length c,.slice a2 3 c2] w fun e w'=>(∃ a c',e = .returned (.slice a (stripP s).length c')∧Sl w a c' (stripP s))∧w'=w:=by
 have hin:∀ {a:Option Addr} {c:Nat} {xs:List Nat},Sl w a c xs→Lib.BytesIn w a xs.length (ints xs):=fun {a c xs} h hn=>by
  rcases h.src with h0 | ⟨b,o,e,hc⟩
  ·rw [h0] at hn;simp at hn
  ·exact ⟨b,o,e,fun i hi=>by rw [ints_at];exact hc i hi⟩
 have K:=Any.bytes_TrimPrefix_all ltrim ao a2 s.length c 3 c2 (ints s) (ints [239,187,191]) w (ints_len _) rfl h.le (hin h) (hin h2)
 refine Calls.mono (show Calls Tryz.prog 38 #[.slice ao s.length c,.slice a2 3 c2] w _ from K) ?_
 rintro e w' ⟨rfl,rfl⟩
 refine ⟨?_,rfl⟩
 by_cases hs:s.take 3=[239,187,191]
 ·have hl:3≤s.length:=by have:=congrArg List.length hs;rw [List.length_take] at this;simp at this;omega
  rcases h.src with h0 | ⟨b,o,rfl,hc⟩
  ·rw [h0] at hl;simp at hl
  ·have hf:=h.from_ 3 hl
   have e:stripP s=s.drop 3:=by unfold stripP;rw [if_pos hs]
   rw [e]
   refine ⟨_,_,?_,hf⟩
   show Ending.returned (Lib.bytesTrimPrefix b o s.length c (ints s) (ints [239,187,191]))=_
   unfold Lib.bytesTrimPrefix
   rw [bytesOf_ints,bytesOf_ints,has3 h.bs,decide_eq_true hs,if_pos rfl,List.length_drop]
   unfold Lib.sliceFrom cutA
   rw [ints_len]
   simp only [List.length_cons,List.length_nil,Nat.zero_add,Nat.reduceAdd,Option.map_some,Nat.mul_one,Addr.add_lit]
 ·have e:stripP s=s:=by unfold stripP;rw [if_neg hs]
  rw [e]
  refine ⟨ao,c,?_,h⟩
  unfold Lib.trimPrefixV
  split
  ·unfold Lib.bytesTrimPrefix
   rw [bytesOf_ints,bytesOf_ints,has3 h.bs,decide_eq_false hs,if_neg (by simp)]
  ·rfl
set_option maxHeartbeats 1600000 in
theorem Strip_any (ao:Option Addr) (c:Nat) (s:List Nat) (w:World) (h:Sl w ao c s) (hm:s.length≤1000000) :
  Calls Tryz.prog 20 #[.slice ao s.length c] w (SlTo (stripP s) w):=by
 have hc:=fun (w:World) (C:Array Value) (n c:Nat)=>Lib.run_convert_bytes_const (P:=Tryz.prog) w 22 5 C n c Tryz.underlying22 Tryz.underlying5
 obtain ⟨W1,hW1⟩:∃ W1,W1=w.alloc (.cells #[.int .u8 239,.int .u8 187,.int .u8 191] 5 (3,4)):=⟨_,rfl⟩
 have b1:Below w.heap.size w W1:=by rw [hW1];exact (Below.refl _ w).alloc (Nat.le_refl _) _
 have s1:Sl W1 (some ⟨w.heap.size,0,none⟩) 3 [239,187,191]:=by rw [hW1];exact sl_text w [239,187,191] _ 3 _ _ rfl rfl rfl (fun x hx=>by simp at hx;omega) (by decide)
 have K:=Lib.hid (trim_any ao _ c 3 s W1 (h.below b1) s1 hm)
 have hl:(stripP s).length≤s.length:=by unfold stripP;split <;> simp
 obtain ⟨L,hL⟩:∃ L,L=stripP s:=⟨_,rfl⟩
 rw [←hL] at K hl ⊢
 have KC:=Lib.hid fun (a:Option Addr) (c:Nat) (h:Sl W1 a c L)=>clone_any a c L W1 h (by omega)
 obtain ⟨Z,hZ⟩:∃ Z,Z=L.length:=⟨_,rfl⟩
 unfold Cloned at KC
 rw [←hZ] at K KC
 have HB1:=Lib.hid b1
 have HZ:=Lib.hid hZ
 clear h b1 s1 hL hZ
 go_enter Tryz.func20,Tryz.ntmps20
 go_wp2_with (first
  | (rw [←hW1];clear hW1;go_at_call 38;(with_reducible refine K.out.mono ?_);rintro e w2 ⟨⟨a3,c3,rfl,hs⟩,rfl⟩;have HS:=Lib.hid hs;clear hs)
  | (go_at_call 37;(with_reducible refine (KC.out a3 c3 HS.out).mono ?_);rintro e w3 ⟨a4,c4,rfl,hf,hb⟩;have HF:=Lib.hid hf.1;have HB:=Lib.hid (HB1.out.trans (hb.mono HB1.out.size));clear hf hb))
 go_ret
 exact ⟨a4,c4,by rw [←HZ.out];rfl,HF.out,HB.out⟩
end
end Go.Proofs.YtbogfailbgbdoaaGreatDoor
