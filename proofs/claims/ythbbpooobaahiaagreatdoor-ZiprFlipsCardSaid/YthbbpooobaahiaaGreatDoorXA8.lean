/- Part 8. -/
import Derived.Test.YthbbpooobaahiaaGreatDoorXA7
namespace Go.Proofs.YthbbpooobaahiaaGreatDoor
set_option maxRecDepth 100000
section
open Go.RowKit
def Coded (w:World) (ls:List Nat) (e:Ending) (w':World):Prop:=∃ pc,e = .returned (.pointer (some ⟨pc,0,none⟩))∧CodeAt w' pc ls∧Below w.heap.size w w'
theorem codeOf_yes (ao:Option Addr) (c n:Nat) (zs:List Int) (w:World) (h:IS w ao zs) (hl:zs.length=n) (hv:Vd zs) (hm:room (nat zs)≤32768):Calls Tryz.prog 155 #[.slice ao n c] w (Coded w (nat zs)):=by
 subst hl
 have HN:=Lib.hid (New_ok ao c zs w h hv hm)
 clear h hv hm
 go_enter Tryz.func155,Tryz.ntmps155
 go_wp2_with (first
  | (go_at_call 171;(refine HN.out.mono ?_);rintro e w2 ⟨pc,rfl,hc,hb⟩;have HC:=Lib.hid hc;have HB:=Lib.hid hb;clear hc hb)
  | (go_at_call 135;(with_reducible refine (must_yes _ _).mono ?_);rintro e w4 ⟨rfl,rfl⟩))
 go_ret
 exact ⟨pc,rfl,HC.out,HB.out⟩
theorem codeOf_no (ao:Option Addr) (c n:Nat) (zs:List Int) (w:World) (h:IS w ao zs) (hl:zs.length=n) (hv:Vd zs) (hm:32768<room (nat zs)):Calls Tryz.prog 155 #[.slice ao n c] w fun e w'=>e=pan 10∧Below w.heap.size w w':=by
 subst hl
 have HN:=Lib.hid (New_form ao c zs w h hv hm)
 clear h hv hm
 go_enter Tryz.func155,Tryz.ntmps155
 go_wp2_with (first
  | (go_at_call 171;(refine HN.out.mono ?_);rintro e w2 ⟨rfl,hb⟩;have HB:=Lib.hid hb;clear hb)
  | (go_at_call 135;(refine (must_no 10 _).mono ?_);rintro e w4 ⟨rfl,rfl⟩))
 exact ⟨rfl,rfl,HB.out⟩
theorem index_any (ao:Option Addr) (c:Nat) (zs:List Int) (x:Int) (w:World) (h:IS w ao zs) (hl:zs.length≤1000) :
  Calls Tryz.prog 186 #[.slice ao zs.length c,.int .i64 x] w fun e w'=>(∃ j:Int,e = .returned (.int .i64 j)∧(0≤j↔x∈zs))∧w=w':=by
 have HI:=Lib.hid h
 clear h
 go_enter Tryz.func186,Tryz.ntmps186
 go_wp2
 go_loop [8] (fun iv'=>∃ k:Nat,k≤zs.length∧iv' = .int .i64 k∧Hid (x∉zs.take k)) (fun iv'=>zs.length-(intOf iv').toNat)
 case atStart=>exact ⟨0,Nat.zero_le _,rfl,Lib.hid (by simp)⟩
 case round=>
  obtain ⟨k,hk,rfl,hn⟩:=hrel
  by_cases hlt:k<zs.length
  ·obtain ⟨b,off,rfl,hc⟩:=HI.out.at hlt
   obtain ⟨y,hy⟩:∃ y,y=zs.getD k 0:=⟨_,rfl⟩
   rw [←hy] at hc
   have HY:Hid (zs.take (k+1)=zs.take k++[y]):=Lib.hid (by rw [List.take_succ_eq_append_getElem hlt,hy];simp [List.getD,hlt])
   have HM:Hid (y∈zs):=Lib.hid (by rw [hy];exact getD_mem hlt)
   clear hy
   have hlt':(k:Int)<zs.length:=by omega
   by_cases he:x=y
   ·have d1:(x == y)=true:=by simpa using he
    have HE:=Lib.hid he
    clear he
    go_wp2
    go_ret
    exact ⟨⟨k,rfl,⟨fun _=>by rw [HE.out];exact HM.out,fun _=>by omega⟩⟩,rfl⟩
   ·have d1:(x == y)=false:=by simpa using he
    have HE:=Lib.hid he
    clear he
    go_wp2
    go_round
    case rel=>exact ⟨k+1,by omega,by go_num,Lib.hid (by rw [HY.out];intro hm;rcases List.mem_append.1 hm with hm | hm;exact hn.out hm;exact HE.out (List.mem_singleton.1 hm))⟩
    case measure=>simp [intOf];omega
  ·have hge:(zs.length:Int)≤k:=by omega
   have HN2:Hid (x∉zs):=Lib.hid (by have:=hn.out;rwa [List.take_of_length_le (by omega)] at this)
   go_wp2
   go_ret
   exact ⟨⟨-1,rfl,⟨fun h=>by omega,fun h=>absurd h HN2.out⟩⟩,rfl⟩
theorem contains_any (ao:Option Addr) (c:Nat) (zs:List Int) (x:Int) (w:World) (h:IS w ao zs) (hl:zs.length≤1000) :
  Calls Tryz.prog 174 #[.slice ao zs.length c,.int .i64 x] w fun e w'=>e = .returned (.bool (decide (x∈zs)))∧w=w':=by
 have HI:=Lib.hid (index_any ao c zs x w h hl)
 clear h
 go_enter Tryz.func174,Tryz.ntmps174
 go_wp2_with (go_at_call 186;(refine HI.out.mono ?_);rintro e w2 ⟨⟨j,rfl,hj⟩,rfl⟩;have HJ:=Lib.hid hj;clear hj)
 go_ret
 exact ⟨ret_bool (by have:=HJ.out;simp only [this]),rfl⟩
theorem mem_nat {zs:List Int} (hv:Vd zs):(1:Int)∈zs↔1∈nat zs:=by
 unfold nat
 rw [List.mem_map]
 constructor
 ·intro h;exact ⟨1,h,rfl⟩
 ·rintro ⟨z,hz,he⟩
  have:=hv.all z hz
  have:z=1:=by omega
  rwa [this] at hz
theorem isFull_any (p:Nat) (ao:Option Addr) (c n:Nat) (zs:List Int) (w:World) (h:CodeAt w p (nat zs)) (hi:IS w ao zs) (hl:zs.length=n) (hv:Vd zs) :
  Calls Tryz.prog 158 #[.pointer (some ⟨p,0,none⟩),.slice ao n c] w fun e w'=>e = .returned (.bool (whole (nat zs)))∧Below w.heap.size w w':=by
 subst hl
 have hlen:=hv.len
 have HC:=Lib.hid (Complete_any p (nat zs) w h)
 by_cases h1:room (nat zs)=32768
 ·have hw:whole (nat zs)=true:=by unfold whole;simp [h1]
  rw [hw]
  simp only [h1,decide_true] at HC
  clear h hi hv h1 hw
  go_enter Tryz.func158,Tryz.ntmps158
  go_wp2_with (go_at_call 172;(refine HC.out.mono ?_);rintro e w2 ⟨rfl,hb⟩;have HB:=Lib.hid hb;clear hb)
  go_ret
  exact ⟨rfl,HB.out⟩
 ·simp only [h1,decide_false] at HC
  have HS:=Lib.hid fun W (hb:Below w.heap.size w W)=>Symbols_any p (nat zs) W (h.below hb)
  obtain ⟨m,hm⟩:∃ m,m=many (nat zs):=⟨_,rfl⟩
  rw [←hm] at HS
  have hmb:m≤10000:=by
   rw [hm]
   have:=fp_le (nat zs) (by rw [nat_len];exact hlen) 16
   unfold many
   omega
  by_cases h2:m=1
  ·have hw:whole (nat zs)=decide ((1:Int)∈zs):=by
    unfold whole
    rw [←hm]
    simp [h1,h2,mem_nat hv]
   rw [hw]
   have HK:=Lib.hid fun W (hb:Below w.heap.size w W)=>contains_any ao c zs 1 W (hi.below hb) (by omega)
   obtain ⟨b,hb0⟩:∃ b,b=decide ((1:Int)∈zs):=⟨_,rfl⟩
   rw [←hb0] at HK ⊢
   have d1:((m:Int) == 1)=true:=by simp [h2]
   clear h hi hv h1 hw h2 hm hb0
   go_enter Tryz.func158,Tryz.ntmps158
   go_wp2_with (first
    | (go_at_call 172;(refine HC.out.mono ?_);rintro e w2 ⟨rfl,hb⟩;have HB:=Lib.hid hb;clear hb)
    | (go_at_call 159;(refine (HS.out _ HB.out).mono ?_);rintro e w3 ⟨rfl,rfl⟩)
    | (go_at_call 174;(refine (HK.out _ HB.out).mono ?_);rintro e w3 ⟨rfl,rfl⟩))
   go_ret
   exact ⟨rfl,HB.out⟩
  ·have hw:whole (nat zs)=false:=by
    unfold whole
    rw [←hm]
    simp [h1,h2]
   rw [hw]
   have d1:((m:Int) == 1)=false:=by simp;omega
   clear h hi hv h1 hw h2 hm
   go_enter Tryz.func158,Tryz.ntmps158
   go_wp2_with (first
    | (go_at_call 172;(refine HC.out.mono ?_);rintro e w2 ⟨rfl,hb⟩;have HB:=Lib.hid hb;clear hb)
    | (go_at_call 159;(refine (HS.out _ HB.out).mono ?_);rintro e w3 ⟨rfl,rfl⟩))
   go_ret
   exact ⟨rfl,HB.out⟩
section
variable {B K p pb:Nat} {g:Option Nat} {bs:List Nat} {lim:Nat} {w:World} {ov:Value} {s:Sta}
theorem RS.setFix (h:RS B K p pb g bs lim w ov s) (K':Nat) (v:Value) (hv:FixAt w K' v) :
  RS B K' p pb g bs lim (w.setCell ⟨p,5,none⟩ v) ov s∧Mv p pb w ov (w.setCell ⟨p,5,none⟩ v) ov:=by
 obtain ⟨n1,n2,n3⟩:=h.ne
 have ht:Touch (fun k=>k=p) w (w.setCell ⟨p,5,none⟩ v):=(Touch.refl _ w).setCell _ _ (.inl rfl)
 have hT:Touch (FT p pb ov) w (w.setCell ⟨p,5,none⟩ v):=ht.mono fun i hi => .inl hi
 obtain ⟨fx,hb,hf⟩:=h.blk
 exact ⟨⟨⟨v,hb.setCell 5 _,hv.safe hT h.safe⟩,h.ob.touch ht fun k hk e=>by rcases hk with hk | hk;exact n1 (e.symm.trans hk);exact (n3 k hk).1 e,ownsRow_touch h.own ht fun i hi e=>(n2 i hi).1 e,h.hp,h.row,h.len,h.lim_,h.in_,h.out,h.steps,h.blocks,h.bytes⟩,hT,fun _ x => .inl x⟩
def Two2 (B p pb:Nat) (g:Option Nat) (bs:List Nat) (lim:Nat) (w:World) (ov:Value) (s:Sta) (fl ol:List Nat) (e:Ending) (w':World):Prop:=
 ∃ p1 p2,e = .returned (.agg #[.pointer (some ⟨p1,0,none⟩),.pointer (some ⟨p2,0,none⟩)])∧CodeAt w' p1 fl∧CodeAt w' p2 ol∧(∃ K',K'≤w'.heap.size∧RS B K' p pb g bs lim w' ov s)∧Mv p pb w ov w' ov
theorem fix_vd1:Vd fixFZ:=⟨by decide +kernel,by decide +kernel⟩
theorem fix_vd2:Vd fixOZ:=⟨by decide +kernel,by decide +kernel⟩
theorem fix_room1:room (nat fixFZ)≤32768:=by decide +kernel
theorem fix_room2:room (nat fixOZ)≤32768:=by decide +kernel
theorem fx_facts {w4 W:World} {p1 p2 r:Nat} (hrw:w.heap.size≤r) (h:RS B K p pb g bs lim w ov s) (hb:Below w.heap.size w w4) (hv:Blk w4 r 203 #[.pointer none,.pointer none]) (k1:CodeAt w4 p1 fixF) (k2:CodeAt w4 p2 fixO)
  (hq:Blk W w4.heap.size 203 #[.pointer (some ⟨p1,0,none⟩),.pointer (some ⟨p2,0,none⟩)]) (ht:Touch (fun _=>False) w4 W) :
  (∃ fx5,W.cell? ⟨p,5,none⟩=some fx5)∧W.frozen? ⟨p,5,none⟩=false∧p≠r∧p≠w4.heap.size∧r≠w4.heap.size∧W.cell? ⟨r,0,none⟩=some (.pointer none)∧W.cell? ⟨r,1,none⟩=some (.pointer none)∧
  W.frozen? ⟨r,0,none⟩=false∧W.frozen? ⟨r,1,none⟩=false∧W.cell? ⟨w4.heap.size,0,none⟩=some (.pointer (some ⟨p1,0,none⟩))∧W.cell? ⟨w4.heap.size,1,none⟩=some (.pointer (some ⟨p2,0,none⟩))∧
  ∀ W6,Touch (fun k=>k=r) (W.setCell ⟨p,5,none⟩ (.pointer (some ⟨w4.heap.size,0,none⟩))) W6→(∃ K',K'≤W6.heap.size∧RS B K' p pb g bs lim W6 ov s)∧Mv p pb w ov W6 ov∧CodeAt W6 p1 fixF∧CodeAt W6 p2 fixO:=by
 have hbW:Below w4.heap.size w4 W:=ht.below (Nat.le_refl _) fun _ h=>h.elim
 obtain ⟨h5,m5⟩:=h.grow (hb.trans (hbW.mono hb.size))
 obtain ⟨fx5,hb5,_⟩:=h5.blk
 have v5:=hv.below hbW
 have c1:=k1.below hbW
 have c2:=k2.below hbW
 have hx:FixAt W W.heap.size (.pointer (some ⟨w4.heap.size,0,none⟩)) := .inr ⟨_,p1,p2,rfl,hq,c1.in_,c2.in_,hq.lt⟩
 obtain ⟨h6,m6⟩:=h5.setFix _ _ hx
 have i1:=c1.in_
 have i2:=c2.in_
 have hpr:p≠r:=by
  rintro rfl
  rw [Blk,hb5] at v5
  simp at v5
 obtain ⟨fx0,hb0,_⟩:=h.blk
 have hp0:=hb0.lt
 have hsz:=hb.size
 have hr0:=hv.lt
 have hsf:=h5.safe
 have d1:=i1.safe m6.touch hsf
 have d2:=i2.safe m6.touch hsf
 have hq6:=hq.safe m6.touch hsf (by decide)
 have hv6:=v5.safe m6.touch hsf (by decide)
 have hb6:=hb5.setCell 5 (.pointer (some ⟨w4.heap.size,0,none⟩))
 refine ⟨⟨fx5,(hb5.cell 5).trans rfl⟩,hb5.free 5,hpr,by omega,by omega,(v5.cell 0).trans rfl,(v5.cell 1).trans rfl,v5.free 0,v5.free 1,(hq.cell 0).trans rfl,(hq.cell 1).trans rfl,?_⟩
 intro W6 ht6
 have e1:=d1.aside hv6 ht6 ⟨by decide,by decide,fun h=>absurd h (by decide)⟩
 have e2:=d2.aside hv6 ht6 ⟨by decide,by decide,fun h=>absurd h (by decide)⟩
 obtain ⟨sv,o1,o2,o3⟩:=h6.ob.blk
 refine ⟨⟨W.heap.size,Nat.le_trans (by simp) ht6.size,⟨_,hb6.touch ht6 hpr,.inr ⟨_,p1,p2,rfl,hq6.touch ht6 (by omega),e1,e2,hq.lt⟩⟩,h6.ob.touch ht6 ?_,ownsRow_touch h6.own ht6 ?_,h6.hp,h6.row,h6.len,h6.lim_,h6.in_,h6.out,h6.steps,h6.blocks,h6.bytes⟩,?_,e1.at_,e2.at_⟩
 ·rintro k (rfl | hk) e
  ·subst e
   rw [Blk,o1] at hv6
   simp at hv6
  ·subst e
   rw [←o2] at hk
   obtain ⟨cs,hc⟩:=own_ty o3 hk
   rw [Blk,hc] at hv6
   simp at hv6
 ·intro k hk e
  subst e
  obtain ⟨cs,hc⟩:=own_ty h6.own hk
  rw [Blk,hc] at hv6
  simp at hv6
 ·exact ⟨(m5.trans m6).touch.trans' ht6 (fun i hi hlt=>by omega),fun k hk => .inl hk⟩
set_option maxHeartbeats 1600000 in
theorem fixedCodes_any (h:RS B K p pb g bs lim w ov s) (hK:K≤w.heap.size):Calls Tryz.prog 138 #[.pointer (some ⟨p,0,none⟩)] w (Two2 B p pb g bs lim w ov s fixF fixO):=by
 obtain ⟨fx,hb,hf⟩:=h.blk
 rcases hf with rfl | ⟨q,p1,p2,rfl,hq,hc1,hc2,_⟩
 ·have c5:=(hb.cell 5).trans (show _=some (.pointer none) from rfl)
  have hpl:=hb.lt
  have H:=Lib.hid h
  have e1:∀ W:World,(binOp BinOp.eql 166 (.pointer none) (.pointer none)).run Tryz.prog W = .ok (.bool true) W:=fun _=>by kernel_rfl
  clear h hb
  go_enter Tryz.func138,Tryz.ntmps138
  go_wp2_with (go_at_call 154;(refine (Fixed_any _).mono ?_);rintro e w2 ⟨a1,c1,a2,c2,rfl,i1,i2,hb2⟩;have I1:=Lib.hid i1;have I2:=Lib.hid i2;have HB2:=Lib.hid hb2;clear i1 i2 hb2)
  obtain ⟨r,hr⟩:∃ r,r=w.heap.size:=⟨_,rfl⟩
  have HV:Hid (Blk w2 r 203 #[.pointer none,.pointer none]):=Lib.hid (by rw [hr];exact (Blk.made w 203 _).below HB2.out)
  have HBw:Hid (Below r w w2):=Lib.hid (by rw [hr];exact ((Below.refl _ w).alloc (Nat.le_refl _) _).trans (HB2.out.mono (by simp)))
  have HRr:=Lib.hid hr
  rw [←hr]
  clear hr HB2
  refine (codeOf_yes a1 c1 288 fixFZ _ I1.out fixFZ_len fix_vd1 fix_room1).mono ?_
  rintro e w3 ⟨p1,rfl,k1,b3⟩
  have K1:=Lib.hid k1
  have B3:=Lib.hid b3
  have I3:=Lib.hid (I2.out.below b3)
  clear k1 b3 I1 I2
  go_wp2_with fail
  refine (codeOf_yes a2 c2 32 fixOZ _ I3.out fixOZ_len fix_vd2 fix_room2).mono ?_
  rintro e w4 ⟨p2,rfl,k2,b4⟩
  have hB4:Below w.heap.size w w4:=by
   have s0:=HBw.out.size
   have s3:=B3.out.size
   have hr:=HRr.out
   rw [hr] at HBw
   exact HBw.out.trans ((B3.out.mono (by omega)).trans (b4.mono (by omega)))
  have FF:=Lib.hid fun W hq ht=>fx_facts (W:=W) (by rw [HRr.out];exact Nat.le_refl _) H.out hB4 ((HV.out.below B3.out).below b4) (fixFZ_nat ▸ K1.out.below b4) (fixOZ_nat ▸ k2) hq ht
  clear hB4 b4 k2 K1 B3 I3 HBw HV H
  go_wp2_with (refine wpList_box_row rfl 203 (.tmp 19) rfl #[.pointer (some ⟨p1,0,none⟩),.pointer (some ⟨p2,0,none⟩)] rfl ?_;intro W hbq htq hsq;obtain ⟨⟨fx5,k5⟩,f5,n1,n2,n3,r0,r1,g0,g1,q0,q1,FIN⟩:=FF.out W hbq htq;have FI:=Lib.hid FIN;clear hbq htq hsq FIN;obtain ⟨q,hq⟩:∃ q,q=w4.heap.size:=⟨_,rfl⟩;rw [←hq] at n2 n3 q0 q1 FI ⊢;clear hq)
  refine bodyPost_ret (v := .agg #[.pointer (some ⟨p1,0,none⟩),.pointer (some ⟨p2,0,none⟩)]) (by simp [results,Tryz.results138,go_sem,r0,r1]) rfl ?_
  obtain ⟨f1,f2,f3,f4⟩:=FI.out _ (((Touch.refl (fun k=>k=r) (W.setCell ⟨p,5,none⟩ (.pointer (some ⟨q,0,none⟩)))).setCell ⟨r,0,none⟩ (.pointer (some ⟨p1,0,none⟩)) (.inl rfl)).setCell ⟨r,1,none⟩ (.pointer (some ⟨p2,0,none⟩)) (.inl rfl))
  exact ⟨p1,p2,rfl,f3,f4,f1,f2⟩
 ·have c5:=(hb.cell 5).trans (show _=some (.pointer (some ⟨q,0,none⟩)) from rfl)
  have q0:=(hq.cell 0).trans (show _=some (.pointer (some ⟨p1,0,none⟩)) from rfl)
  have q1:=(hq.cell 1).trans (show _=some (.pointer (some ⟨p2,0,none⟩)) from rfl)
  have hpl:=hb.lt
  have hql:=hq.lt
  have H:=Lib.hid h
  have C1:=Lib.hid hc1.at_
  have C2:=Lib.hid hc2.at_
  clear h hb hq hc1 hc2
  go_enter Tryz.func138,Tryz.ntmps138
  go_wp2
  refine bodyPost_ret (v := .agg #[.pointer (some ⟨p1,0,none⟩),.pointer (some ⟨p2,0,none⟩)]) (by simp [results,Tryz.results138,go_sem]) rfl ?_
  have hA:Below w.heap.size w (w.alloc (.cells #[.pointer (some ⟨p1,0,none⟩),.pointer (some ⟨p2,0,none⟩)] 203)):=(Below.refl _ w).alloc (Nat.le_refl _) _
  obtain ⟨h2,m2⟩:=H.out.grow hA
  exact ⟨p1,p2,rfl,C1.out.below hA,C2.out.below hA,⟨K,Nat.le_trans hK hA.size,h2⟩,m2⟩
end
end
end Go.Proofs.YthbbpooobaahiaaGreatDoor
namespace Go.Proofs.YthbbpooobaahiaaGreatDoor.Z
set_option maxRecDepth 100000
section
open Go.RowKit
structure Touch (S:Nat→Prop) (w w':World):Prop where
 os:w'.os=w.os
 tape:w'.tape=w.tape
 output:w'.output=w.output
 size:w.heap.size≤w'.heap.size
 block:∀ k,k<w.heap.size→¬S k→w'.heap[k]? = w.heap[k]?
theorem Touch.refl (S:Nat→Prop) (w:World):Touch S w w:=⟨rfl,rfl,rfl,Nat.le_refl _,fun _ _ _=>rfl⟩
theorem Touch.setCell {S:Nat→Prop} {a w:World} (h:Touch S a w) (p:Addr) (u:Value) (hp:S p.block∨a.heap.size≤p.block):Touch S a (w.setCell p u):=
 ⟨h.os,h.tape,h.output,Nat.le_trans h.size (by simp [World.setCell]),fun k hk hs=>(Below.heap_setCell _ _ _ _ (fun e=>by subst e;rcases hp with hp | hp;exact hs hp;omega)).trans (h.block k hk hs)⟩
theorem Touch.grown {S:Nat→Prop} {a w w':World} {row:Option Nat} (h:Touch S a w) (hg:w.grownBy w' row) (hr:∀ k,row=some k→S k∨a.heap.size≤k):Touch S a w':=
 ⟨hg.os.trans h.os,hg.tape.trans h.tape,hg.output.trans h.output,Nat.le_trans h.size hg.size,fun k hk hs=>
  (hg.block k (Nat.lt_of_lt_of_le hk h.size) (fun e=>by rcases hr k e.symm with hp | hp;exact hs hp;omega)).trans (h.block k hk hs)⟩
theorem Touch.below {S:Nat→Prop} {a b:World} {B:Nat} (h:Touch S a b) (hB:B≤a.heap.size) (hS:∀ k,S k→B≤k):Below B a b:=
 ⟨h.os,h.tape,h.output,h.size,fun k hk=>h.block k (by omega) fun s=>by have:=hS k s;omega⟩
theorem ownsRow_touch {S:Nat→Prop} {w w':World} {base:Nat} {e:TypeId} {size:Nat} {v:Value} {n:Nat} {xs:List Value} (h:w.ownsRow base e size v n xs) (ht:Touch S w w') (hs:∀ k,v.ownBlock=some k→¬S k):w'.ownsRow base e size v n xs:=by
 refine ⟨h.1,?_⟩
 rcases h.2 with hn | ⟨g,cap,cur,rfl,hb,hgg,rest⟩
 ·exact .inl hn
 ·refine .inr ⟨g,cap,cur,rfl,hb,?_,rest⟩
  rw [ht.block g (Array.getElem?_eq_some_iff.1 hgg).1 (hs g (by simp [Value.ownBlock]))]
  exact hgg
theorem own_shape {w:World} {base:Nat} {e:TypeId} {size:Nat} {v:Value} {n:Nat} {xs:List Value} (h:w.ownsRow base e size v n xs):∃ a c,v = .slice a n c:=by
 rcases h.2 with ⟨rfl,rfl⟩ | ⟨g,cap,cur,rfl,_⟩
 ·exact ⟨_,_,rfl⟩
 ·exact ⟨_,_,rfl⟩
theorem own_base {w:World} {base base':Nat} {e:TypeId} {size:Nat} {v:Value} {n:Nat} {xs:List Value} (h:w.ownsRow base e size v n xs) (hb:base'≤base):w.ownsRow base' e size v n xs:=by
 refine ⟨h.1,?_⟩
 rcases h.2 with h2 | ⟨g,cap,cur,hv,hg,r⟩
 ·exact .inl h2
 ·exact .inr ⟨g,cap,cur,hv,Nat.le_trans hb hg,r⟩
theorem Touch.of_below {S:Nat→Prop} {a b:World} (h:Below a.heap.size a b):Touch S a b:=⟨h.os,h.tape,h.output,h.size,fun k hk _=>h.block k hk⟩
def Blk (w:World) (g:Nat) (t:TypeId) (cs:Array Value):Prop:=w.heap[g]? = some (.cells cs t (0,0))
theorem Blk.lt {w:World} {g:Nat} {t:TypeId} {cs:Array Value} (h:Blk w g t cs):g<w.heap.size:=by
 rcases Nat.lt_or_ge g w.heap.size with hlt | hge
 ·exact hlt
 ·rw [Blk,Array.getElem?_eq_none hge] at h;cases h
theorem Blk.cell {w:World} {g:Nat} {t:TypeId} {cs:Array Value} (h:Blk w g t cs) (i:Nat):w.cell? ⟨g,i,none⟩=cs[i]? := cell_of_row w g i cs t (0,0) h
theorem Blk.free {w:World} {g:Nat} {t:TypeId} {cs:Array Value} (h:Blk w g t cs) (i:Nat):w.frozen? ⟨g,i,none⟩=false:=by
 rw [Blk] at h
 simp [World.frozen?,h]
theorem Blk.made (w:World) (t:TypeId) (cs:Array Value):Blk (w.alloc (.cells cs t)) w.heap.size t cs:=by
 show (w.heap.push _)[w.heap.size]? = _
 simp
theorem Blk.below {w w':World} {g:Nat} {t:TypeId} {cs:Array Value} (h:Blk w g t cs) (hb:Below w.heap.size w w'):Blk w' g t cs:=(hb.block g h.lt).trans h
theorem Blk.low {w w':World} {B g:Nat} {t:TypeId} {cs:Array Value} (h:Blk w g t cs) (hb:Below B w w') (hg:g<B):Blk w' g t cs:=(hb.block g hg).trans h
theorem Blk.setCell {w:World} {g:Nat} {t:TypeId} {cs:Array Value} (h:Blk w g t cs) (i:Nat) (u:Value):Blk (w.setCell ⟨g,i,none⟩ u) g t (cs.setIfInBounds i u):=by
 rw [Blk] at h ⊢
 simp [World.setCell,Array.getElem?_modify,h]
section
variable {P:Program} {ops:Array Oper} {rest:List Oper} {o:Oper} {a:Act} {w:World} {Q:Exit→Act→World→Prop}
end
def IS (w:World) (ao:Option Addr) (zs:List Int):Prop:=
 zs=[]∨∃ b off,ao=some ⟨b,off,none⟩∧∀ j,j<zs.length→w.cell? ⟨b,off+j,none⟩=some (.int .i64 (zs.getD j 0))
theorem IS.at {w:World} {ao:Option Addr} {zs:List Int} (h:IS w ao zs) {k:Nat} (hk:k<zs.length):∃ b off,ao=some ⟨b,off,none⟩∧w.cell? ⟨b,off+k,none⟩=some (.int .i64 (zs.getD k 0)):=by
 rcases h with h | ⟨b,off,rfl,hc⟩
 ·rw [h] at hk;simp at hk
 ·exact ⟨b,off,rfl,hc k hk⟩
theorem ownsRow_below {w w':World} {base:Nat} {e:TypeId} {size:Nat} {v:Value} {n:Nat} {xs:List Value} (h:w.ownsRow base e size v n xs) (hb:Below w.heap.size w w'):w'.ownsRow base e size v n xs:=
 ownsRow_touch h (Touch.of_below (S:=fun _=>False) hb) fun _ _ h=>h
structure Apg (w:World) (base e sz:Nat) (v:Value) (n:Nat) (xs:List Value) (v':Value) (w':World):Prop where
 own:w'.ownsRow base e sz v' n xs
 touch:Touch (fun k=>v.ownBlock=some k) w w'
 row:∀ k,v'.ownBlock=some k→v.ownBlock=some k∨w.heap.size≤k
theorem Apg.below {a b:World} {base e sz n:Nat} {v1 v2:Value} {xs ys:List Value} {m:Nat} (k:Apg a base e sz v1 n xs v2 b) (h:a.ownsRow base e sz v1 m ys) (hb:base≤a.heap.size):Below base a b:=
 k.touch.below hb fun i hi=>(h.lt i hi).1
def CellsAt (w:World) (sv:Value) (m:Nat) (ys:List Value):Prop:=
 (sv = .slice none 0 0∧m=0∧ys=[])∨∃ ad c,sv = .slice (some ad) m c∧∀ j u,ys[j]? = some u→w.cell? (ad.add j)=some u
structure AT (t e:Nat) (z:Value) (size bytes:Nat):Prop where
 hu:Tryz.prog.underlying t=some (.slice e)
 info:(Tryz.prog.info? e).map (fun i=>(i.zero,i.size,i.bytes))=some (some z,size,bytes)
 zs:z.cells.size=size
 pos:0<size
theorem run_append_g {t e:Nat} {z:Value} {size bytes:Nat} (T:AT t e z size bytes) (w:World) {base:Nat} {v sv:Value} {n m:Nat} {xs ys:List Value} (ty:TypeId) (hown:w.ownsRow base e size v n xs) (hs:CellsAt w sv m ys)
  (hyl:ys.length=m*size) (h1:∀ u∈ys,u.oneCell'=true) (hbase:base≤w.heap.size) (hl:n+m≤140737488355328) (hby:(n+m)*bytes≤140737488355328) :
  ∃ v' w',(Builtin.append_ #[t,t] ty #[v,sv]).run Tryz.prog w = .ok v' w'∧Apg w base e size v (n+m) (xs++ys) v' w':=by
 obtain ⟨i0,hi,hz0,hz1,hz2⟩:=info_parts T.info
 rcases hs with ⟨rfl,rfl,rfl⟩ | ⟨ad,c,rfl,hcell⟩
 ·refine ⟨v,w,run_append_owned_none w base t ty e i0 size T.hu hi v n xs hown,?_,Touch.refl _ _,fun k hk => .inl hk⟩
  simpa using hown
 ·rcases hown.2 with ⟨rfl,hn0⟩ | ⟨g,cap,cur,rfl,hbg,hh,hnc,hcm,hcs,htake⟩
  ·subst hn0
   have hx:xs=[]:=List.eq_nil_of_length_eq_zero (by rw [hown.1,Nat.zero_mul])
   subst hx
   obtain ⟨v',w',hr,ho,hg,_⟩:=run_append_own (P:=Tryz.prog) w w.heap.size t ty e i0 z size bytes T.hu hi hz0 hz1 hz2 T.zs T.pos (.slice none 0 0) 0 [] (World.ownsRow_nil _ _ _ _) ad m c ys hyl hcell h1 (by unfold maxLen;omega) hby (Nat.le_refl _)
   exact ⟨v',w',hr,own_base ho hbase,(Touch.refl _ w).grown hg fun k hk=>by simp [Value.ownBlock] at hk,fun k hk => .inr (ho.lt k hk).1⟩
  ·by_cases hroom:n+m≤cap
   ·obtain ⟨w',hr,ho,hg⟩:=run_append_fits (P:=Tryz.prog) w base t ty e i0 size T.hu hi hz1 g n cap xs hown ad m c ys hyl hcell h1 hroom
    exact ⟨_,w',hr,ho,(Touch.refl _ w).grown hg fun k hk => .inl (by cases hk;simp [Value.ownBlock]),fun k hk => .inl (by simpa [Value.ownBlock] using hk)⟩
   ·obtain ⟨v',w',hr,ho,hg⟩:=run_append_arg_grows (P:=Tryz.prog) w t ty e i0 z size bytes T.hu hi hz0 hz1 hz2 T.zs T.pos ⟨g,0,none⟩ n cap xs hown.1 (hown.cells (by simp [Value.ownBlock])) ad m c ys hyl hcell (by omega) (by unfold maxLen;omega) hby
    exact ⟨v',w',hr,own_base ho hbase,(Touch.refl _ w).grown hg (fun k hk=>by cases hk),fun k hk => .inr (ho.lt k hk).1⟩
theorem wpList_append_g {t e:Nat} {z:Value} {size bytes:Nat} (T:AT t e z size bytes) {w:World} {ops:Array Oper} {rest:List Oper} {o:Oper} {a:Act} {Q:Exit→Act→World→Prop} (hgd:o.guard=none) (s x:Operand)
  (ho:o.op = .call { callee := .builtin .append,args := #[s,x],argTypes := #[t,t] })
  (base:Nat) (v sv:Value) (n m:Nat) (xs ys:List Value) (hs:a.eval s=v) (hx:a.eval x=sv) (hown:w.ownsRow base e size v n xs) (hsrc:CellsAt w sv m ys)
  (hyl:ys.length=m*size) (h1:∀ u∈ys,u.oneCell'=true) (hbase:base≤w.heap.size) (hl:n+m≤140737488355328) (hby:(n+m)*bytes≤140737488355328)
  (h:∀ ao c w',Apg w base e size v (n+m) (xs++ys) (.slice ao (n+m) c) w'→wpList Tryz.prog ops Q rest (a.put o.dst (.slice ao (n+m) c)) w'):wpList Tryz.prog ops Q (o::rest) a w:=by
 refine wpList_plain hgd fun K hK=>?_
 obtain ⟨v',w',hrun,hA⟩:=run_append_g T w o.type hown hsrc hyl h1 hbase hl hby
 obtain ⟨ao,c,rfl⟩:=own_shape hA.own
 unfold Oper.wp
 simp [execOp,ho,resolve,invoke,builtin,hs,hx,hrun,Result.andThen]
 exact hK _ _ (by simpa using h ao c w' hA)
def iv (zs:List Int):List Value:=zs.map fun z => .int .i64 z
theorem iv_at (zs:List Int) (j:Nat) (h:j<zs.length):(iv zs)[j]? = some (.int .i64 (zs.getD j 0)):=by simp [iv,h,List.getD]
theorem at22:AT 88 3 (.int .i64 0) 1 8:=⟨by kernel_rfl,by kernel_rfl,rfl,by omega⟩
theorem own_is {w:World} {base:Nat} {ao:Option Addr} {c n:Nat} {zs:List Int} (h:w.ownsRow base 3 1 (.slice ao n c) n (iv zs)) (hn:zs.length=n):IS w ao zs:=by
 subst hn
 rcases h.2 with ⟨e,h0⟩ | ⟨g,cap,cur,e,hbg,hh,hnc,hcm,hcs,htake⟩
 ·exact .inl (List.eq_nil_of_length_eq_zero h0)
 ·simp only [Value.slice.injEq] at e
  obtain ⟨rfl,_,rfl⟩:=e
  refine .inr ⟨g,0,rfl,fun j hj=>?_⟩
  rw [Nat.zero_add,World.ownsRow.cellAt h j (by omega),iv_at zs j hj]
def spl (s:Int):Nat:=if s=16 then 3 else if s=17 then 3 else if s=18 then 11 else 1
def spm (s:Int):Nat:=if s=16 then 6 else if s=17 then 10 else if s=18 then 138 else 1
theorem span_any (s:Int) (w:World):Calls Tryz.prog 193 #[.int .i64 s] w fun e w'=>e = .returned (.tuple #[.int .i64 (spl s:Nat),.int .i64 (spm s:Nat)])∧w'=w:=by
 by_cases h1:s=16
 ·subst h1
  go_enter Tryz.func193,Tryz.ntmps193
  go_wp2
  go_ret2
  exact ⟨rfl,rfl⟩
 ·have b1:(s == 16)=false:=by simp [h1]
  by_cases h2:s=17
  ·subst h2
   go_enter Tryz.func193,Tryz.ntmps193
   go_wp2
   go_ret2
   exact ⟨rfl,rfl⟩
  ·have b2:(s == 17)=false:=by simp [h2]
   by_cases h3:s=18
   ·subst h3
    go_enter Tryz.func193,Tryz.ntmps193
    go_wp2
    go_ret2
    exact ⟨rfl,rfl⟩
   ·have b3:(s == 18)=false:=by simp [h3]
    have e1:=Lib.hid (show spl s=1 by simp [spl,h1,h2,h3])
    have e2:=Lib.hid (show spm s=1 by simp [spm,h1,h2,h3])
    rw [e1.out,e2.out]
    clear h1 h2 h3
    go_enter Tryz.func193,Tryz.ntmps193
    go_wp2
    go_ret2
    exact ⟨rfl,rfl⟩
def Bad (l m n:Int):Prop:=n<l∨m<n
instance (l m n:Int):Decidable (Bad l m n):=inferInstanceAs (Decidable (_∨_))
structure Kept (w:World) (p q:Nat) (l m:Int):Prop where
 lo:w.cell? ⟨p,0,none⟩=some (.int .i64 l)
 hi:w.cell? ⟨q,0,none⟩=some (.int .i64 m)
def fnOut (p q:Nat):Value := .func (.func 197) #[] #[.pointer (some ⟨p,0,none⟩),.pointer (some ⟨q,0,none⟩)]
def MadeOut (l m:Int) (w:World) (e:Ending) (w':World):Prop:=∃ p q,e = .returned (fnOut p q)∧Kept w' p q l m∧Below w.heap.size w w'∧w.heap.size≤p∧w.heap.size≤q
theorem outside_any (l m:Int) (w:World):Calls Tryz.prog 194 #[.int .i64 l,.int .i64 m] w (MadeOut l m w):=by
 go_enter Tryz.func194,Tryz.ntmps194
 go_wp2
 go_ret
 refine ⟨_,_,rfl,?_,((Below.refl _ w).alloc (Nat.le_refl _) _).alloc (by simp) _,Nat.le_refl _,by simp⟩
 exact ⟨by simp,by simp⟩
theorem bad_yes (p q:Nat) (l m n:Int) (w:World) (hK:Kept w p q l m) (h:Bad l m n) :
  Calls Tryz.prog 197 #[.int .i64 n,.pointer (some ⟨p,0,none⟩),.pointer (some ⟨q,0,none⟩)] w fun e w'=>e = .returned (.bool true)∧w'=w:=by
 have h1:=hK.lo
 have h2:=hK.hi
 clear hK
 by_cases c:n<l
 ·go_enter Tryz.func197,Tryz.ntmps197
  go_wp2
  go_ret
  exact ⟨rfl,rfl⟩
 ·have c2:m<n:=by rcases h with h | h;exact absurd h c;exact h
  have c':l≤n:=Int.not_lt.mp c
  clear h c
  go_enter Tryz.func197,Tryz.ntmps197
  go_wp2
  go_ret
  exact ⟨rfl,rfl⟩
theorem bad_no (p q:Nat) (l m n:Int) (w:World) (hK:Kept w p q l m) (h:¬Bad l m n) :
  Calls Tryz.prog 197 #[.int .i64 n,.pointer (some ⟨p,0,none⟩),.pointer (some ⟨q,0,none⟩)] w fun e w'=>e = .returned (.bool false)∧w'=w:=by
 have h1:=hK.lo
 have h2:=hK.hi
 have c1:l≤n:=Int.not_lt.mp fun c=>h (.inl c)
 have c2:n≤m:=Int.not_lt.mp fun c=>h (.inr c)
 clear hK h
 have d2:decide (m<n)=false:=decide_eq_false (by omega)
 have d1:decide (n<l)=false:=decide_eq_false (by omega)
 go_enter Tryz.func197,Tryz.ntmps197
 go_wp2
 go_ret
 exact ⟨rfl,rfl⟩
def icl (r:List (Int × Int)):List Value:=r.flatMap fun x=>[.int .i64 x.1,.int .i64 x.2]
theorem icl_cons (x:Int × Int) (r:List (Int × Int)):icl (x::r) = .int .i64 x.1 :: .int .i64 x.2::icl r:=rfl
def itm (r:List (Int × Int)) (k:Nat):Int × Int:=r.getD k (0,0)
theorem icl_at (r:List (Int × Int)) (k:Nat) (h:k<r.length):(icl r)[k*2]? = some (.int .i64 (itm r k).1)∧(icl r)[k*2+1]? = some (.int .i64 (itm r k).2):=by
 induction r generalizing k with
 | nil=>simp at h
 | cons x r ih=>
  cases k with
  | zero=>exact ⟨rfl,rfl⟩
  | succ k=>
   have:=ih k (by simpa using h)
   rw [icl_cons,show (k+1)*2=k*2+1+1 by omega,List.getElem?_cons_succ,List.getElem?_cons_succ,List.getElem?_cons_succ,List.getElem?_cons_succ]
   exact this
def TS (w:World) (ao:Option Addr) (r:List (Int × Int)):Prop:=r=[]∨∃ b off,ao=some ⟨b,off,none⟩∧w.rangeAt b off (icl r)
theorem TS.on {w w':World} {ao:Option Addr} {r:List (Int × Int)} (h:TS w ao r) (hb:Below w.heap.size w w'):TS w' ao r:=by
 rcases h with h | ⟨b,off,rfl,hc⟩
 ·exact .inl h
 ·exact .inr ⟨b,off,rfl,fun j v hv=>by
   have:=hc j v hv
   exact (hb.cell (World.block_lt_of_cell? w _ this)).trans this⟩
theorem TS.at {w:World} {ao:Option Addr} {r:List (Int × Int)} (h:TS w ao r) {k:Nat} (hk:k<r.length) :
  ∃ b off,ao=some ⟨b,off,none⟩∧w.cell? ⟨b,off+k*2,none⟩=some (.int .i64 (itm r k).1)∧w.cell? ⟨b,off+k*2+1,none⟩=some (.int .i64 (itm r k).2):=by
 rcases h with rfl | ⟨b,off,rfl,hc⟩
 ·simp at hk
 ·have:=icl_at r k hk
  exact ⟨b,off,rfl,hc _ _ this.1,by have:=hc _ _ this.2;rwa [←Nat.add_assoc] at this⟩
def tv (s:Int) (ts:List Int):Int:=if s=16 then ts.getD (ts.length-1) 0 else if s=17 then 0 else if s=18 then 0 else s
set_option maxHeartbeats 4000000 in
theorem told_any (ao:Option Addr) (c:Nat) (s:Int) (ts:List Int) (w:World) (h:IS w ao ts) (hs:s=16→ts≠[]) (hl:ts.length≤1000) :
  Calls Tryz.prog 195 #[.int .i64 s,.slice ao ts.length c] w fun e w'=>e = .returned (.int .i64 (tv s ts))∧w'=w:=by
 by_cases h1:s=16
 ·subst h1
  have hn:0<ts.length:=List.length_pos_iff.2 (hs rfl)
  obtain ⟨b,o,rfl,q1⟩:=h.at (k:=ts.length-1) (by omega)
  obtain ⟨x,hx⟩:∃ x,x=ts.getD (ts.length-1) 0:=⟨_,rfl⟩
  have e0:=Lib.hid (show tv 16 ts=x by rw [tv,if_pos rfl,hx])
  rw [e0.out]
  rw [←hx] at q1
  clear hx hs h
  obtain ⟨k,hk⟩:∃ k,k=ts.length-1:=⟨_,rfl⟩
  obtain ⟨L,hL⟩:∃ L,L=ts.length:=⟨_,rfl⟩
  rw [←hk] at q1
  rw [←hL] at hk hl hn ⊢
  have e1:IntKind.i64.wrap ((L:Int)-1)=k:=by rw [IntKind.wrap_i64];omega
  have hk2:(k:Int)<L:=by omega
  clear hk hL
  go_enter Tryz.func195,Tryz.ntmps195
  go_wp2
  go_ret
  exact ⟨rfl,rfl⟩
 ·have b1:(s == 16)=false:=by simp [h1]
  clear hs h
  by_cases h2:s=17
  ·subst h2
   go_enter Tryz.func195,Tryz.ntmps195
   go_wp2
   go_ret
   exact ⟨rfl,rfl⟩
  ·have b2:(s == 17)=false:=by simp [h2]
   by_cases h3:s=18
   ·subst h3
    go_enter Tryz.func195,Tryz.ntmps195
    go_wp2
    go_ret
    exact ⟨rfl,rfl⟩
   ·have b3:(s == 18)=false:=by simp [h3]
    have e1:=Lib.hid (show tv s ts=s by simp [tv,h1,h2,h3])
    rw [e1.out]
    clear h1 h2 h3
    go_enter Tryz.func195,Tryz.ntmps195
    go_wp2
    go_ret
    exact ⟨rfl,rfl⟩
def Wi (s x:Int) (n:Nat):Prop:=Bad 0 18 s∨Bad 0 ((spm s:Int)-spl s) x∨(s=16∧n=0)∨(320-n:Int)<spl s+x
instance (s x:Int) (n:Nat):Decidable (Wi s x n):=inferInstanceAs (Decidable (_∨_))
theorem sp_lim (s:Int):1≤spl s∧spl s≤11∧spl s≤spm s∧spm s≤138:=by
 unfold spl spm
 by_cases h1:s=16
 ·simp [h1]
 ·by_cases h2:s=17
  ·simp [h2]
  ·by_cases h3:s=18
   ·simp [h3]
   ·simp [h1,h2,h3]
def un:List (Int × Int)→List Int→Option (List Int)
 | [],ts=>some ts
 | (s,x)::r,ts=>if Wi s x ts.length then none else un r (ts++List.replicate ((spl s:Int)+x).toNat (tv s ts))
theorem run_call1 {ρ : Operand→Value} {o:Oper} {w:World} (x y:Operand) (ts:Array TypeId) (f:Nat) (caps:Array Value) (v:Value) (hF:∀ A:Array Value,(callFunc f A).run Tryz.prog w = .ok (.enter f A) w) (ho:o.op = .call { callee := .value x,args := #[y],argTypes:=ts }) (hx : ρ x = .func (.func f) #[] caps) (hy : ρ y=v) :
  (execOp ρ o).run Tryz.prog w = .ok (.enter f (#[v]++caps)) w:=by
 unfold execOp
 simp [ho,hx,hy,hF,go_sem]
theorem run_call2 {ρ : Operand→Value} {o:Oper} {w:World} (x y z:Operand) (ts:Array TypeId) (f:Nat) (caps:Array Value) (v u:Value) (hF:∀ A:Array Value,(callFunc f A).run Tryz.prog w = .ok (.enter f A) w) (ho:o.op = .call { callee := .value x,args := #[y,z],argTypes:=ts }) (hx : ρ x = .func (.func f) #[] caps) (hy : ρ y=v) (hz : ρ z=u) :
  (execOp ρ o).run Tryz.prog w = .ok (.enter f (#[v,u]++caps)) w:=by
 unfold execOp
 simp [ho,hx,hy,hz,hF,go_sem]
theorem enter35 (A:Array Value) (w:World):(callFunc 197 A).run Tryz.prog w = .ok (.enter 197 A) w:=by kernel_rfl
theorem enter21 (A:Array Value) (w:World):(callFunc 194 A).run Tryz.prog w = .ok (.enter 194 A) w:=by kernel_rfl
theorem step_call {ops:Array Oper} {o:Oper} {a:Act} {w:World} {K:Act→World→Prop} {Q:Exit→Act→World→Prop} {E:Prop} (hw:Region.wanted o (yielded ops a.tmps)=true) (f:FuncId) (args:Array Value)
  (hr:(execOp a.eval o).run Tryz.prog w = .ok (.enter f args) w) (R:Value→World→Prop) (hc:Calls Tryz.prog f args w fun e w'=>∃ v,e = .returned v∧R v w') (h:∀ v w',R v w'→K (a.put o.dst v) w') :
  if Region.wanted o (yielded ops a.tmps)=true then Oper.wp Tryz.prog o a w K Q else E:=by
 rw [if_pos hw]
 unfold Oper.wp
 rw [hr]
 exact hc.mono (by rintro e w' ⟨v,rfl,hR⟩;exact h v w' hR)
end
end Go.Proofs.YthbbpooobaahiaaGreatDoor.Z
