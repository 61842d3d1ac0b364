/- Part 7. -/
import Derived.Laws.Bits64b
import Derived.Laws.CopyOwn
import Derived.Lib.AppendZerosOnto
import Derived.Shelf.Spec.SlicesGrow
import Derived.Test.YthbbpooobaahiaaGreatDoorXB6
namespace Go.Proofs.YthbbpooobaahiaaGreatDoor
set_option maxRecDepth 100000
section
open Go.RowKit
theorem turned (n:Nat) (h:n<65536):n ^^^ 65535=65535-n:=by
 rw [show 65535-n=2^16-(n+1) by omega]
 apply Nat.eq_of_testBit_eq
 intro i
 rw [Nat.testBit_xor,Nat.testBit_two_pow_sub_succ (by omega),show (65535:Nat)=2^16-1 by decide,Nat.testBit_two_pow_sub_one]
 by_cases hi:i<16
 ·simp [hi]
 ·have:n.testBit i=false:=Nat.testBit_lt_two_pow (Nat.lt_of_lt_of_le (show n<2^16 by omega) (Nat.pow_le_pow_right (by omega) (by omega)))
  simp [hi,this]
theorem xor_ones (n:Nat) (h:n<65536):bits BinOp.xor IntKind.i64 (n:Int) 65535=((65535-n:Nat):Int):=by
 rw [←turned n h]
 have h1:n ^^^ 65535<65536:=Nat.xor_lt_two_pow (n:=16) h (by decide)
 have e:(65535:Int)=((65535:Nat):Int):=rfl
 rw [e]
 have a':n%2^IntKind.i64.bits=n:=Nat.mod_eq_of_lt (Nat.lt_of_lt_of_le h (by decide))
 have b':65535%2^IntKind.i64.bits=65535:=by decide
 simp only [bits,BitVec.ofInt_natCast,BitVec.toNat_xor,BitVec.toNat_ofNat,a',b']
 rw [IntKind.wrap_i64]
 omega
section
variable {B K p pb:Nat} {g:Option Nat} {bs:List Nat} {lim:Nat} {w:World} {ov:Value} {s:Sta}
theorem rdN_lt {n:Nat} {t:Sta} {v:Nat} (h:rdN bs n s = .ok v t):v<2^n:=by
 obtain ⟨_,h4,_⟩:=rdN_is h
 rw [h4]
 exact pk_lt bs s.at_ n
theorem RS.mid1 {w1:World} {ov':Value} {xs:List Nat} (h:RS B K p pb g bs lim w ov s) (hA:Apd w B ov xs ov' w1) (hx:xs.length≤lim) (hb':Bs xs) :
  w1.cell? ⟨p,1,none⟩=some ov∧w1.frozen? ⟨p,1,none⟩=false∧RS B K p pb g bs lim (w1.setCell ⟨p,1,none⟩ ov') ov' { s with out:=xs }∧Mv p pb w ov (w1.setCell ⟨p,1,none⟩ ov') ov':=by
 obtain ⟨fx,hb,_⟩:=h.blk
 have hb1:Blk w1 p 168 (rc pb ov lim s fx):=hb.touch hA.touch fun e=>((h.ne).2.1 _ e).1 rfl
 obtain ⟨h2,k2⟩:=h.setOut hA hx hb'
 exact ⟨(hb1.cell 1).trans rfl,hb1.free 1,h2,k2⟩
set_option maxHeartbeats 3200000 in
theorem stored_any (h:RS B K p pb g bs lim w ov s) :
  Calls Tryz.prog 136 #[.pointer (some ⟨p,0,none⟩)] w (RTo B K p pb g bs lim w ov uv (stored bs lim s)):=by
 obtain ⟨R,hR⟩:∃ R,R=stored bs lim s:=⟨_,rfl⟩
 rw [←hR]
 unfold stored at hR
 have HR:=Lib.hid hR
 have hin:=h.in_
 have hlen:=h.len
 have c0:=h.cells.c0
 have HA:=Lib.hid (h.ob.ralign (by omega))
 have HM:=Lib.hid fun w' (k:Moved w B 186 pb g bs (up8 s.at_) w')=>h.moved k (up8_le _) (up8_end hin)
 clear hR h
 go_enter Tryz.func136,Tryz.ntmps136
 go_wp2_with fail
 refine HA.out.mono ?_
 rintro e w0 ⟨rfl,hm⟩
 obtain ⟨h0,m0⟩:=HM.out w0 hm
 clear c0 HA HM hm
 go_wp2_with fail
 refine (number_any h0 16 (by omega)).mono ?_
 rintro e w1 h1
 have hR:=HR.out
 cases hr1:rdN bs 16 { s with at_:=up8 s.at_ } with
 | bad er=>
  rw [hr1] at h1 hR
  obtain ⟨rfl,ht⟩:=h1
  have HR1:=Lib.hid hR
  clear hr1 hR h0
  go_wp2
  exact ⟨rfl,RTo.bad HR1.out (m0.bad ht)⟩
 | ok n s1=>
  rw [hr1,Res.bind_ok] at hR
  rw [hr1] at h1
  obtain ⟨rfl,ov1,h1,m1⟩:=h1
  have hn:=rdN_lt hr1
  have hn6:n<65536:=hn
  have q1:=(rdN_is hr1).2.2
  have M1:=Lib.hid (m0.trans m1)
  have HR1:=Lib.hid hR
  clear hr1 hR h0 m0 m1 hn HR
  go_wp2_with fail
  refine (number_any h1 16 (by omega)).mono ?_
  rintro e w2 h2
  have hR:=HR1.out
  cases hr2:rdN bs 16 s1 with
  | bad er=>
   rw [hr2] at h2 hR
   obtain ⟨rfl,ht⟩:=h2
   have HR2:=Lib.hid hR
   clear hr2 hR h1 q1
   go_wp2
   exact ⟨rfl,RTo.bad HR2.out (M1.out.bad ht)⟩
  | ok m s2=>
   rw [hr2,Res.bind_ok] at hR
   rw [hr2] at h2
   obtain ⟨rfl,ov2,h2,m2⟩:=h2
   have hm6:m<65536:=rdN_lt hr2
   have q2:=(rdN_is hr2).2.2
   have hal:s2.at_%8=0:=by rw [q2,q1];show (up8 s.at_+16+16)%8=0;unfold up8;omega
   have M2:=Lib.hid (M1.out.trans m2)
   clear hr2 h1 m2 q1 q2 HR1 M1
   have hx:=xor_ones n hn6
   obtain ⟨z,hz⟩:∃ z,z=65535-n:=⟨_,rfl⟩
   rw [←hz] at hx hR
   by_cases h4:m≠z
   ·rw [if_pos h4] at hR
    have HR2:=Lib.hid hR
    have d1:((m:Int) == (z:Int))=false:=by simp;omega
    clear hR h4 hz h2 hal
    go_wp2_with (go_at_call 135;refine (must_no 10 _).mono ?_;rintro e w4 ⟨rfl,rfl⟩)
    exact ⟨rfl,RTo.bad HR2.out M2.out.touch⟩
   ·rw [if_neg h4] at hR
    have d1:((m:Int) == (z:Int))=true:=by simp;omega
    have HR2:=Lib.hid hR
    have c0:=h2.cells.c0
    have H2:=Lib.hid h2
    have hin2:=h2.in_
    have hlen2:=h2.len
    clear h4 hz hR h2
    by_cases h5:8*bs.length<s2.at_+8*n
    ·have hR:=HR2.out
     rw [if_pos h5] at hR
     have HR3:=Lib.hid hR
     have HB:=Lib.hid (H2.out.ob.bytes_no (by omega) hin2 n (by omega))
     clear hR h5 HR2
     go_wp2_with (first
      | (go_at_call 135;(with_reducible refine (must_yes _ _).mono ?_);rintro e w4 ⟨rfl,rfl⟩)
      | (go_at_call 150;(refine HB.out.mono ?_);rintro e w4 ⟨rfl,rfl⟩)
      | (go_at_call 135;refine (must_no 15 _).mono ?_;rintro e w4 ⟨rfl,rfl⟩))
     exact ⟨rfl,RTo.bad HR3.out M2.out.touch⟩
    ·have hR:=HR2.out
     rw [if_neg h5] at hR
     have HR3:=Lib.hid hR
     have HB:=Lib.hid (H2.out.ob.bytes_yes (by omega) hin2 n (by omega))
     have hf:(s2.at_+7)/8=s2.at_/8:=by omega
     rw [hf] at HB
     have hq:(s2.at_/8+n)*8=s2.at_+8*n:=by omega
     rw [hq] at HB
     clear hR HR2 hf hq
     go_wp2_with (go_at_call 135;(with_reducible refine (must_yes _ _).mono ?_);rintro e w4 ⟨rfl,rfl⟩)
     refine HB.out.mono ?_
     rintro e w4 ⟨a,c,rfl,hown,hlow,ho,ht⟩
     obtain ⟨h4,m4⟩:=H2.out.moved ⟨ho,ht⟩ (by omega) (by omega)
     have M4:=Lib.hid (M2.out.trans m4)
     obtain ⟨xs,hxs⟩:∃ xs,xs=(bs.drop (s2.at_/8)).take n:=⟨_,rfl⟩
     have hxl:xs.length=n:=by rw [hxs,List.length_take,List.length_drop];omega
     have hxb:Bs xs:=by rw [hxs];exact cut_bs H2.out.ob.hb _ _
     rw [←hxs] at hown ⊢
     have HOWN:=Lib.hid hown
     have hR:=HR3.out
     rw [←hxs] at hR
     have HXL:=Lib.hid hxl
     have HR5:=Lib.hid hR
     clear hown hlow ho ht m4 HB c0 M2 hxs hxl HR3 hR
     go_wp2_with (go_at_call 135;(with_reducible refine (must_yes _ _).mono ?_);rintro e w5 ⟨rfl,rfl⟩)
     refine (needRoom_any h4 n).mono ?_
     rintro e w5 ⟨he,nq,rfl⟩
     have hR:=HR5.out
     by_cases h6:lim<s2.out.length+n
     ·rw [if_neg (by simpa using h6)] at he
      subst he
      rw [if_pos h6] at hR
      have HR4:=Lib.hid hR
      clear hR h6
      go_wp2
      exact ⟨rfl,RTo.bad HR4.out (M4.out.trans (h4.drewN nq).2).touch⟩
     ·rw [if_pos (by simpa using h6)] at he
      subst he
      rw [if_neg h6] at hR
      have HR4:=Lib.hid hR
      obtain ⟨h7,m7⟩:=h4.drewN nq
      have M7:=Lib.hid (M4.out.trans m7)
      have HSR:Hid (BySl (w4.drewN nq) (.slice a xs.length c) xs):=Lib.hid ((BySl.own HOWN.out).touch ((Touch.refl (fun _=>False) w4).drewN nq) (fun _ _ h=>h))
      obtain ⟨W,hW⟩:∃ W,W=w4.drewN nq:=⟨_,rfl⟩
      rw [←hW] at h7 M7 HSR ⊢
      obtain ⟨ao,c1,rfl⟩:=h7.slice
      obtain ⟨l,hl⟩:∃ l,l=s2.out:=⟨_,rfl⟩
      have h6':l.length+xs.length≤lim:=by rw [hl,HXL.out];omega
      have hlim:=h7.lim_
      have p1:=h7.cells.c1
      have HO7:Hid (W.ownsRow B 5 1 (.slice ao l.length c1) l.length (u8s l)):=Lib.hid (by rw [hl];exact h7.own)
      have hB:=h7.size
      have hbb:Bs (l++xs):=fun x hx=>by
       rcases List.mem_append.1 hx with hx | hx
       ·rw [hl] at hx;exact h7.bytes x hx
       ·exact hxb x hx
      have h6'':(l++xs).length≤lim:=by rw [List.length_append];exact h6'
      have HL:=Lib.hid hl
      have p1':W.cell? ⟨p,1,none⟩=some (.slice ao l.length c1):=by rw [hl];exact p1
      have hst:s2.steps≤800000:=by have:=h7.steps;have:=h7.in_;simp at *;omega
      have hst2:s2.steps+n≤s2.at_+8*n:=by have:=H2.out.steps;omega
      have H7:=Lib.hid h7
      clear hR h6 h7 m7 h4 hW hl p1 M4 HR5 H2 HOWN
      go_wp2_with (refine wpList_append_x rfl (.tmp 38) (.tmp 39) rfl B (.slice ao l.length c1) (.slice a xs.length c) l xs rfl rfl HO7.out HSR.out (by omega) (by omega) ?_;intro ao2 cc2 w5 hA;obtain ⟨r1,r2,r3,r4⟩:=H7.out.mid1 (by rw [←HL.out];exact hA) h6'' hbb;rw [←HL.out] at r1;rw [List.length_append] at r3 r4;have r5:=r3.cells.c3;have r6:=r3.cells.f3;have R3:=Lib.hid r3;have R4:=Lib.hid r4;clear r3 r4 hA)
      go_end0
      obtain ⟨h8,m8⟩:=R3.out.setSteps (s2.steps+n) hst2 (x:=(s2.steps:Int)+n) (by simp)
      refine RTo.ok (a:=()) ?_ h8 ((M7.out.trans R4.out).trans m8)
      rw [HR4.out,HL.out]
end
theorem mul64_one (n:Nat) (w:World) (hn:n≤1000) :
  Calls Tryz.prog 189 #[.int .u64 1,.int .u64 n] w fun e w'=>e = .returned (.tuple #[.int .u64 0,.int .u64 n])∧w=w':=by
 have e1:bits BinOp.and IntKind.u64 1 4294967295=1:=by decide
 have e2:bits BinOp.and IntKind.u64 (n:Int) 4294967295=n:=by
  have h:=bits_and_u64_nat n 4294967295 (by omega) (by decide)
  have e:n &&& 4294967295=n:=by
   rw [show (4294967295:Nat)=2^32-1 by decide,Nat.and_two_pow_sub_one_eq_mod]
   exact Nat.mod_eq_of_lt (by omega)
  rw [e] at h
  exact h
 have e3:bits BinOp.and IntKind.u64 0 4294967295=0:=by decide
 have e4:(n:Int)/4294967296=0:=by omega
 go_enter Tryz.func189,Tryz.ntmps189
 go_wp2
 go_ret2
 exact ⟨rfl,rfl⟩
theorem mul_one' (n:Nat) (w:World) (hn:n≤1000) :
  Calls Tryz.prog 179 #[.int .u64 1,.int .u64 n] w fun e w'=>e = .returned (.tuple #[.int .u64 0,.int .u64 n])∧w=w':=by
 go_enter Tryz.func179,Tryz.ntmps179
 go_wp2_with (go_at_call 189;(refine (mul64_one n _ hn).mono ?_);rintro e w2 ⟨rfl,rfl⟩)
 go_ret2
 exact ⟨rfl,rfl⟩
def fill (n x i:Nat):List Value:=(List.range n).map fun j => .int .i64 ((if j<i then x else 0:Nat):Int)
theorem fill_len (n x i:Nat):(fill n x i).length=n:=by simp [fill]
theorem fill_at (n x i j:Nat) (h:j<n):(fill n x i)[j]? = some (.int .i64 ((if j<i then x else 0:Nat):Int)):=by simp [fill,h]
theorem fill_splice (n x i m:Nat) (h:i+m≤n):splice (fill n x i) i (List.replicate m (.int .i64 (x:Nat)))=fill n x (i+m):=by
 have hl:(splice (fill n x i) i (List.replicate m (.int .i64 (x:Nat)))).length=n:=by rw [length_splice _ _ _ (by simp [fill_len];omega),fill_len]
 apply List.ext_getElem?
 intro j
 rcases Nat.lt_or_ge j n with hj | hj
 ·rw [fill_at _ _ _ _ hj]
  unfold splice
  rw [List.getElem?_append]
  have ht:(List.take i (fill n x i)).length=i:=by rw [List.length_take,fill_len];omega
  rw [ht]
  split
  ·rename_i h1
   rw [List.getElem?_take_of_lt h1,fill_at _ _ _ _ hj,if_pos h1,if_pos (by omega)]
  ·rename_i h1
   rw [List.getElem?_append,List.length_replicate]
   split
   ·rename_i h2
    rw [List.getElem?_replicate,if_pos h2,if_pos (by omega)]
   ·rename_i h2
    rw [List.getElem?_drop,show i+m+(j-i-m)=j by omega,fill_at _ _ _ _ hj,if_neg (by omega),if_neg (by omega)]
 ·rw [List.getElem?_eq_none (by omega),List.getElem?_eq_none (by rw [fill_len];exact hj)]
theorem fill_zero (n x:Nat):va (n*1) (fun i=>(Value.int .i64 0).cells[i%(Value.int .i64 0).cells.size]!)=(fill n x 0).toArray:=by
 rw [Nat.mul_one]
 unfold va fill
 congr 1
 apply List.map_congr_left
 intro j _
 simp [Value.cells,Nat.mod_one]
set_option maxHeartbeats 1600000 in
theorem repeat_any (b x n:Nat) (w:World) (h1:1≤n) (hn:n≤1000) (hc:w.cell? ⟨b,0,none⟩=some (.int .i64 (x:Nat))) :
  Calls Tryz.prog 170 #[.slice (some ⟨b,0,none⟩) 1 1,.int .i64 n] w fun e w'=>e = .returned (.slice (some ⟨w.heap.size,0,none⟩) n n)∧Blk w' w.heap.size 3 (fill n x n).toArray∧Below w.heap.size w w':=by
 have HC:=Lib.hid hc
 have hbl:b<w.heap.size:=World.block_lt_of_cell? w _ hc
 obtain ⟨g,hg⟩:∃ g,g=w.heap.size:=⟨_,rfl⟩
 rw [←hg] at hbl ⊢
 have HG:=Lib.hid hg
 clear hc hg
 go_enter Tryz.func170,Tryz.ntmps170
 go_wp2_with (first
  | (go_at_call 179;(refine (mul_one' n _ hn).mono ?_);rintro e w2 ⟨rfl,rfl⟩)
  | (refine wpList_make_z rfl 88 (.tmp 29) (.tmp 29) rfl 3 (.int .i64 0) 1 8 n Tryz.underlying88 (by kernel_rfl) .i64 .i64 _ _ rfl rfl rfl rfl (by omega) (by omega) ?_;intro W hb1 ht1 hs1;rw [fill_zero n x] at hb1;rw [←HG.out] at hb1 ⊢;have HB:=Lib.hid hb1;have HT:=Lib.hid ht1;have HS:=Lib.hid hs1;clear hb1 ht1 hs1)
  | (refine wpList_copy_splice rfl (.tmp 31) (.tmp 32) 88 88 rfl 3 Tryz.underlying88 (by kernel_rfl) (some ⟨g,0,none⟩) (some ⟨b,0,none⟩) n n 1 1 rfl rfl g 0 (fill n x 0) 3 HB.out (List.replicate 1 (.int .i64 (x:Nat))) (by rw [List.length_replicate];exact (Nat.min_eq_left h1).symm) (fun _=>⟨rfl,⟨b,0,none⟩,rfl,fun j v hv=>by
    have hj:j=0:=by have:=(List.getElem?_eq_some_iff.1 hv).1;simp at this;exact this
    subst hj
    simp at hv
    subst hv
    rw [Addr.add_lit]
    exact ((Below.cell (HT.out.below (B:=w.heap.size) (Nat.le_refl _) fun _ h=>h.elim) (p:=⟨b,0,none⟩) (by rw [←HG.out];exact hbl))).trans HC.out⟩) (by simp [fill_len];omega) (by simp [Value.oneCell']) g w (HT.out.below (by rw [HG.out];exact Nat.le_refl _) fun _ h=>h.elim) (Nat.le_refl _) ?_;intro W2 hb2 hl2;have HB2:=Lib.hid (hb2.out);have HL2:=Lib.hid hl2;clear hb2 hl2))
 have H1:Hid (Blk W2 g 3 (fill n x 1).toArray):=Lib.hid (by have h:=HB2.out;rw [fill_splice n x 0 1 (by omega)] at h;exact h)
 clear HB2 HB HT HS HC
 go_loopw [8] (fun iv' wr=>∃ i:Nat,1≤i∧i≤n∧iv' = .int .i64 i∧Blk wr g 3 (fill n x i).toArray∧Below g w wr) (fun iv' _=>n-(intOf iv').toNat)
 case atStart=>exact ⟨1,Nat.le_refl _,h1,by simp,H1.out,HL2.out⟩
 case round=>
  clear H1 HL2
  obtain ⟨i,hi1,hi,rfl,hb3,hl3⟩:=hrel
  have HB3:=Lib.hid hb3
  have HL3:=Lib.hid hl3
  clear hb3 hl3
  by_cases hlt:i<n
  ·obtain ⟨m,hm⟩:∃ m,m=Nat.min i (n-i):=⟨_,rfl⟩
   have hm1:1≤m:=by rw [hm];exact Nat.le_min.2 ⟨hi1,by omega⟩
   have hm2:i+m≤n:=by
                 have:m≤n-i:=by rw [hm];exact Nat.min_le_right _ _
                 omega
   have hm3:m≤i:=by rw [hm];exact Nat.min_le_left _ _
   have HM:=Lib.hid hm
   clear hm
   have hin:(i:Int)<n:=by omega
   have hne:¬(n=i):=by omega
   have HW:Hid (IntKind.i64.wrap ((i:Int)+(m:Int))=((i+m:Nat):Int)):=Lib.hid (by rw [IntKind.wrap_i64];omega)
   have HP:Hid (∀ j v,(List.replicate m (Value.int .i64 (x:Nat)))[j]? = some v→wr.drew.cell? ((⟨g,0,none⟩:Addr).add j)=some v):=Lib.hid fun j v hv=>by
    have hj:j<m:=by have:=(List.getElem?_eq_some_iff.1 hv).1;simpa using this
    rw [List.getElem?_replicate,if_pos hj] at hv
    rw [Addr.add_lit,Nat.zero_add]
    refine (HB3.out.cell j).trans ?_
    rw [List.getElem?_toArray,fill_at _ _ _ _ (by omega),if_pos (by omega)]
    exact hv
   go_wp2
   go_region_law (refine step_copy_splice rfl (.tmp 41) (.tmp 44) 88 88 rfl 3 Tryz.underlying88 (by kernel_rfl) (some ⟨g,i,none⟩) (some ⟨g,0,none⟩) (n-i) (n-i) i n (by simp [Act.eval,Act.put]) (by simp [Act.eval,Act.put]) g i (fill n x i) 3 HB3.out (List.replicate m (.int .i64 (x:Nat))) (by rw [List.length_replicate];exact HM.out) (fun _=>⟨rfl,⟨g,0,none⟩,rfl,HP.out⟩) (by simp [fill_len];omega) (by simp [Value.oneCell']) g w (below_drew HL3.out) (Nat.le_refl _) ?_;intro W4 hb4 hl4;have h4:=hb4.out;rw [fill_splice n x i m (by omega)] at h4;have HB4:Hid (Blk W4 g 3 (fill n x (i+m)).toArray):=Lib.hid h4;have HL4:=Lib.hid hl4;clear hb4 hl4 h4)
   all_goals
    go_wp2
    go_roundw
    case rel=>
     repeat apply Exists.intro
     refine ⟨?_,rfl⟩
     exact ⟨i+m,by omega,by omega,congrArg (Value.int .i64) HW.out,HB4.out,HL4.out⟩
    case measure=>simp [intOf,Act.put,HW.out];omega
  ·have hj':i=n:=by omega
   subst hj'
   have hii:¬((i:Int)<i):=by omega
   go_wp2
   go_ret
   exact ⟨rfl,HB3.out,HL3.out⟩
theorem grow_none (n:Nat) (w:World) (h1:1≤n) (hn:n≤1000) :
  Calls Tryz.prog 178 #[.slice none 0 0,.int .i64 n] w fun e w'=>∃ c,e = .returned (.slice (some ⟨w.heap.size,0,none⟩) 0 c)∧w'.ownsRow w.heap.size 3 1 (.slice (some ⟨w.heap.size,0,none⟩) 0 c) 0 []∧Below w.heap.size w w':=by
 obtain ⟨i,hi,hz0,hz1,hz2⟩:=info_parts (P:=Tryz.prog) (e:=3) (z := .int .i64 0) (size:=1) (bytes:=8) (by kernel_rfl)
 have hold:(Builtin.firstCells i.size 0 (.slice none 0 0)).run Tryz.prog w.drew = .ok ([]:List Value).toArray w.drew:=run_firstCells_none w.drew i.size 0 0 0
 have hns:Builtin.nextslicecap (0+n) 0=n:=by unfold Builtin.nextslicecap;rw [if_pos (by omega)];omega
 have hrz:∀ ty,(Builtin.append_ #[88,3] ty #[.slice none 0 0,.int .i64 (n:Nat)]).run Tryz.prog w =
   .ok (.slice (some ⟨w.heap.size,0,none⟩) n (grownCap w n 0 3)) (w.drew.alloc (.cells (([]:List Value).toArray++Builtin.zeroCells (Value.int .i64 0).cells n++Builtin.zeroCells (Value.int .i64 0).cells (grownCap w n 0 3-n)) 3)):=fun ty=>by
  have h:=Lib.run_append_grow_zeros w 88 3 ty 3 i (.int .i64 0) .i64 .i64 Tryz.underlying88 Tryz.underlying3 hi hz0 none 0 0 [] hold n (by omega) (by omega) (by omega) (by omega) (by rw [hz2];omega) (by rw [hns,hz2];omega)
  rw [Nat.zero_add] at h
  exact h
 have hGn:n≤grownCap w n 0 3:=grownCap_ge w _ _ _
 have hGm:grownCap w n 0 3≤maxLen:=grownCap_le_maxLen w n 0 3 (by unfold maxLen;omega)
 obtain ⟨G,hG⟩:∃ G,G=grownCap w n 0 3:=⟨_,rfl⟩
 rw [←hG] at hrz hGn hGm
 have hG63:G≤9223372036854775807:=by unfold maxLen at hGm;omega
 have HRZ:=Lib.hid hrz
 have HM:=Lib.hid hGm
 clear hold hG hi hz0 hz1 hz2 hns hrz hGm
 go_enter Tryz.func178,Tryz.ntmps178
 go_wp2_with (at_builtin;refine Lib.wpList_append_run _ rfl _ _ _ _ rfl _ _ rfl rfl _ _ (HRZ.out _) ?_)
 go_ret
 refine ⟨G,rfl,⟨rfl,.inr ⟨w.heap.size,G,_,rfl,Nat.le_refl _,Blk.made w.drew 3 _,Nat.zero_le _,HM.out,?_,?_⟩⟩,(below_drew (Below.refl _ _)).alloc (Nat.le_refl _) _⟩
 ·simp [size_zeroCells];omega
 ·simp
def cat (Z:Nat→List Int) (k:Nat):List Int:=(List.range k).flatMap Z
theorem cat_zero (Z:Nat→List Int):cat Z 0=[]:=rfl
theorem cat_succ (Z:Nat→List Int) (k:Nat):cat Z (k+1)=cat Z k++Z k:=by simp [cat,List.range_succ]
structure Rows4 (w:World) (q:Nat) (A:Nat→Option Addr) (C:Nat→Nat) (Z:Nat→List Int):Prop where
 cell:∀ k,k<4→w.cell? ⟨q,k,none⟩=some (.slice (A k) (Z k).length (C k))
 is:∀ k,k<4→IS w (A k) (Z k)
 some_:∀ k,k<4→A k=none→C k=0
 len:∀ k,k<4→(Z k).length≤200
theorem Rows4.below {w w':World} {q:Nat} {A:Nat→Option Addr} {C:Nat→Nat} {Z:Nat→List Int} (h:Rows4 w q A C Z) (hb:Below w.heap.size w w'):Rows4 w' q A C Z:=
 ⟨fun k hk=>(hb.cell (World.block_lt_of_cell? w _ (h.cell k hk))).trans (h.cell k hk),fun k hk=>(h.is k hk).below hb,h.some_,h.len⟩
theorem Rows4.cat_le {w:World} {q:Nat} {A:Nat→Option Addr} {C:Nat→Nat} {Z:Nat→List Int} (h:Rows4 w q A C Z):∀ k,k≤4→(cat Z k).length≤200*k:=by
 intro k
 induction k with
 | zero=>intro _;simp [cat_zero]
 | succ k ih=>
  intro hk
  rw [cat_succ,List.length_append]
  have:=ih (by omega)
  have:=h.len k (by omega)
  omega
def Cats (w:World) (zs:List Int) (e:Ending) (w':World):Prop:=∃ ao c,e = .returned (.slice ao zs.length c)∧w'.ownsRow w.heap.size 3 1 (.slice ao zs.length c) zs.length (iv zs)∧Below w.heap.size w w'
set_option maxHeartbeats 1600000 in
theorem concat_any (q:Nat) (A:Nat→Option Addr) (C:Nat→Nat) (Z:Nat→List Int) (w:World) (h:Rows4 w q A C Z) (h1:1≤(cat Z 4).length) :
  Calls Tryz.prog 169 #[.slice (some ⟨q,0,none⟩) 4 4] w (Cats w (cat Z 4)):=by
 have hle:=h.cat_le
 have H:=Lib.hid h
 clear h
 go_enter Tryz.func169,Tryz.ntmps169
 go_wp2
 go_loop [3,11] (fun v iv'=>∃ k:Nat,k≤4∧iv' = .int .i64 k∧v = .int .i64 ((cat Z k).length:Nat)) (fun _ iv'=>4-(intOf iv').toNat)
 case atStart=>exact ⟨0,by omega,rfl,by simp [cat_zero]⟩
 case round=>
  obtain ⟨k,hk,rfl,rfl⟩:=hrel
  by_cases hlt:k<4
  ·have hc:=H.out.cell k hlt
   have hl:=H.out.len k hlt
   have hs:=hle k hk
   have hlt':(k:Int)<4:=by omega
   obtain ⟨m,hm⟩:∃ m,m=(cat Z k).length:=⟨_,rfl⟩
   have HS:Hid ((cat Z (k+1)).length=m+(Z k).length):=Lib.hid (by rw [cat_succ,List.length_append,hm])
   rw [←hm] at hs ⊢
   have d0:decide (((m:Int)+(Z k).length)<0)=false:=by simp;omega
   clear hm
   go_wp2
   go_round
   case rel=>exact ⟨k+1,by omega,by go_num,by rw [HS.out];go_num⟩
   case measure=>simp [intOf];omega
  ·have hk4:k=4:=by omega
   have hge:(4:Int)≤k:=by omega
   have hs:=hle 4 (by omega)
   obtain ⟨m,hm⟩:∃ m,m=(cat Z k).length:=⟨_,rfl⟩
   have hm4:(cat Z 4).length=m:=by rw [hm,hk4]
   rw [hm4] at hs h1
   rw [←hm]
   have HM:=Lib.hid hm4
   clear hm hm4 hk4
   go_wp2_with (go_at_call 178;(refine (grow_none m _ h1 (by omega)).mono ?_);rintro e w2 ⟨c,rfl,ho,hb⟩;have HO:=Lib.hid ho;have HB:=Lib.hid hb;clear ho hb)
   go_loopw [6,27] (fun v iv' wr=>∃ (k:Nat) (ao:Option Addr) (c:Nat),k≤4∧iv' = .int .i64 k∧v = .slice ao (cat Z k).length c∧wr.ownsRow w.heap.size 3 1 (.slice ao (cat Z k).length c) (cat Z k).length (iv (cat Z k))∧Below w.heap.size w wr) (fun _ iv' _=>4-(intOf iv').toNat)
   case atStart=>exact ⟨0,some ⟨w.heap.size,0,none⟩,c,by omega,rfl,by simp [cat_zero],by simpa [cat_zero,iv] using HO.out,HB.out⟩
   case round=>
    clear HO HB
    obtain ⟨k,ao,c,hk,rfl,rfl,ho,hb⟩:=hrel
    have HO:=Lib.hid ho
    have HB:=Lib.hid hb
    clear ho hb
    by_cases hlt:k<4
    ·have H2:=Lib.hid (H.out.below HB.out)
     have hc:=H2.out.cell k hlt
     have hl:=H2.out.len k hlt
     have hs:=hle k hk
     have hlt':(k:Int)<4:=by omega
     have HCA:=Lib.hid ((H2.out.is k hlt).cells (c:=C k) fun _=>H2.out.some_ k hlt)
     obtain ⟨ys,hys⟩:∃ ys,ys=cat Z k:=⟨_,rfl⟩
     have hys1:Hid (cat Z (k+1)=ys++Z k):=Lib.hid (by rw [cat_succ,hys])
     rw [←hys] at HO hs ⊢
     have hsz:=HB.out.size
     clear hys
     go_wp2_with (refine wpList_append_g at22 rfl (.tmp 31) (.tmp 32) rfl w.heap.size (.slice ao ys.length c) (.slice (A k) (Z k).length (C k)) ys.length (Z k).length (iv ys) (iv (Z k)) rfl rfl HO.out HCA.out (by simp [iv_len]) (iv_one _) hsz (by omega) (by omega) ?_;intro ao2 c2 w4 hA;have HA:=Lib.hid hA;clear hA)
     go_roundw
     case rel=>
      refine ⟨k+1,ao2,c2,by omega,by go_num,?_,?_,HB.out.trans (HA.out.below HO.out hsz)⟩
      ·rw [hys1.out,List.length_append]
      ·have:=HA.out.own
       rw [iv_app] at this
       rw [hys1.out,List.length_append]
       exact this
     case measure=>simp [intOf];omega
    ·have hge:(4:Int)≤k:=by omega
     have hk4:=Lib.hid (show k=4 by omega)
     go_wp2
     go_ret
     have e:=hk4.out
     subst e
     exact ⟨ao,c,rfl,HO.out,HB.out⟩
theorem is_fill {w:World} {g n x:Nat} (h:Blk w g 3 (fill n x n).toArray):IS w (some ⟨g,0,none⟩) (List.replicate n (x:Int)):=by
 refine .inr ⟨g,0,rfl,fun j hj=>?_⟩
 rw [List.length_replicate] at hj
 rw [Nat.zero_add,h.cell,List.getElem?_toArray,fill_at _ _ _ _ hj,if_pos hj]
 simp [List.getD,hj]
def fixZ (k:Nat):List Int:=if k=0 then List.replicate 144 8 else if k=1 then List.replicate 112 9 else if k=2 then List.replicate 24 7 else List.replicate 8 8
def fixFZ:List Int:=cat fixZ 4
def fixOZ:List Int:=List.replicate 32 5
theorem fixFZ_nat:nat fixFZ=fixF:=by decide +kernel
theorem fixOZ_nat:nat fixOZ=fixO:=by decide +kernel
theorem fixFZ_len:fixFZ.length=288:=by decide +kernel
theorem fixOZ_len:fixOZ.length=32:=by decide +kernel
theorem repeat_at (b x n:Nat) (w:World) (h1:1≤n) (hn:n≤1000) (hb:w.heap[b]? = some (.cells #[.int .i64 (x:Nat)] 3 (0,0))) :
  Calls Tryz.prog 170 #[.slice (some ⟨b,0,none⟩) 1 1,.int .i64 n] w fun e w'=>∃ g,e = .returned (.slice (some ⟨g,0,none⟩) n n)∧IS w' (some ⟨g,0,none⟩) (List.replicate n (x:Int))∧Below w.heap.size w w':=
 (repeat_any b x n w h1 hn (cell_of_row w b 0 _ 3 (0,0) hb)).mono fun _ _ k=>⟨w.heap.size,k.1,is_fill k.2.1,k.2.2⟩
def FixTo (w:World) (e:Ending) (w':World):Prop:=
 ∃ a1 c1 a2 c2,e = .returned (.tuple #[.slice a1 288 c1,.slice a2 32 c2])∧IS w' a1 fixFZ∧IS w' a2 fixOZ∧Below w.heap.size w w'
theorem fixed_rows {w1 w2 w3 w4:World} {g0 g1 g2 g3:Nat} (i0:IS w1 (some ⟨g0,0,none⟩) (List.replicate 144 8)) (i1:IS w2 (some ⟨g1,0,none⟩) (List.replicate 112 9)) (i2:IS w3 (some ⟨g2,0,none⟩) (List.replicate 24 7)) (i3:IS w4 (some ⟨g3,0,none⟩) (List.replicate 8 8))
  (b1:Below w1.heap.size w1 w2) (b2:Below w2.heap.size w2 w3) (b3:Below w3.heap.size w3 w4) :
  Rows4 (w4.alloc (.cells #[.slice (some ⟨g0,0,none⟩) 144 144,.slice (some ⟨g1,0,none⟩) 112 112,.slice (some ⟨g2,0,none⟩) 24 24,.slice (some ⟨g3,0,none⟩) 8 8] 88)) w4.heap.size
   (fun k=>some ⟨if k=0 then g0 else if k=1 then g1 else if k=2 then g2 else g3,0,none⟩) (fun k=>if k=0 then 144 else if k=1 then 112 else if k=2 then 24 else 8) fixZ:=by
 have hA:=(Below.refl w4.heap.size w4).alloc (Nat.le_refl _) (.cells #[.slice (some ⟨g0,0,none⟩) 144 144,.slice (some ⟨g1,0,none⟩) 112 112,.slice (some ⟨g2,0,none⟩) 24 24,.slice (some ⟨g3,0,none⟩) 8 8] 88)
 have k3:=i3.below hA
 have k2:=(i2.below b3).below hA
 have k1:=((i1.below b2).below b3).below hA
 have k0:=(((i0.below b1).below b2).below b3).below hA
 refine ⟨fun k hk=>?_,fun k hk=>?_,fun k hk h=>by simp at h,fun k hk=>?_⟩
 ·rw [(Blk.made w4 88 _).cell k]
  match k,hk with
  | 0,_=>rfl
  | 1,_=>rfl
  | 2,_=>rfl
  | 3,_=>rfl
 ·match k,hk with
  | 0,_=>exact k0
  | 1,_=>exact k1
  | 2,_=>exact k2
  | 3,_=>exact k3
 ·match k,hk with
  | 0,_=>decide
  | 1,_=>decide
  | 2,_=>decide
  | 3,_=>decide
set_option maxHeartbeats 1600000 in
theorem Fixed_any (w:World):Calls Tryz.prog 154 #[] w (FixTo w):=by
 go_enter Tryz.func154,Tryz.ntmps154
 go_wp2_with fail
 refine (repeat_at _ 8 144 _ (by omega) (by omega) (Blk.made w 3 _)).mono ?_
 rintro e w1 ⟨g0,rfl,i0,b0⟩
 have B0:=Lib.hid (((Below.refl w.heap.size w).alloc (Nat.le_refl _) _).trans (b0.mono (by simp)))
 have I0:=Lib.hid i0
 clear i0 b0
 go_wp2_with fail
 refine (repeat_at _ 9 112 _ (by omega) (by omega) (Blk.made w1 3 _)).mono ?_
 rintro e w2 ⟨g1,rfl,i1,b1⟩
 have B1:=Lib.hid (((Below.refl w1.heap.size w1).alloc (Nat.le_refl _) _).trans (b1.mono (by simp)))
 have I1:=Lib.hid i1
 clear i1 b1
 go_wp2_with fail
 refine (repeat_at _ 7 24 _ (by omega) (by omega) (Blk.made w2 3 _)).mono ?_
 rintro e w3 ⟨g2,rfl,i2,b2⟩
 have B2:=Lib.hid (((Below.refl w2.heap.size w2).alloc (Nat.le_refl _) _).trans (b2.mono (by simp)))
 have I2:=Lib.hid i2
 clear i2 b2
 go_wp2_with fail
 refine (repeat_at _ 8 8 _ (by omega) (by omega) (Blk.made w3 3 _)).mono ?_
 rintro e w4 ⟨g3,rfl,i3,b3⟩
 have B3:=Lib.hid (((Below.refl w3.heap.size w3).alloc (Nat.le_refl _) _).trans (b3.mono (by simp)))
 have I3:=Lib.hid i3
 clear i3 b3
 go_wp2_with fail
 refine (concat_any _ _ _ fixZ _ (fixed_rows I0.out I1.out I2.out I3.out B1.out B2.out B3.out) (by decide +kernel)).mono ?_
 rintro e w5 ⟨a1,c1,rfl,o1,b5⟩
 have hl:(cat fixZ 4).length=288:=fixFZ_len
 rw [hl] at o1 ⊢
 have I5:Hid (IS w5 a1 fixFZ):=Lib.hid (own_is o1 fixFZ_len)
 have B5:=Lib.hid (((Below.refl w4.heap.size w4).alloc (Nat.le_refl _) _).trans (b5.mono (by simp)))
 clear o1 b5 hl
 go_wp2_with fail
 refine (repeat_at _ 5 32 _ (by omega) (by omega) (Blk.made w5 3 _)).mono ?_
 rintro e w6 ⟨g6,rfl,i6,b6⟩
 have B6:=Lib.hid (((Below.refl w5.heap.size w5).alloc (Nat.le_refl _) _).trans (b6.mono (by simp)))
 have I6:=Lib.hid i6
 clear i6 b6
 go_wp2
 go_ret2
 have s0:=B0.out.size
 have s1:=B1.out.size
 have s2:=B2.out.size
 have s3:=B3.out.size
 have s5:=B5.out.size
 exact ⟨a1,c1,_,32,rfl,I5.out.below B6.out,I6.out,B0.out.trans ((B1.out.mono (by omega)).trans ((B2.out.mono (by omega)).trans ((B3.out.mono (by omega)).trans ((B5.out.mono (by omega)).trans (B6.out.mono (by omega))))))⟩
def Coded (w:World) (ls:List Nat) (e:Ending) (w':World):Prop:=∃ pc,e = .returned (.pointer (some ⟨pc,0,none⟩))∧CodeAt w' pc ls∧Below w.heap.size w w'
theorem codeOf_yes (ao:Option Addr) (c n:Nat) (zs:List Int) (w:World) (h:IS w ao zs) (hl:zs.length=n) (hv:Vd zs) (hm:room (nat zs)≤32768):Calls Tryz.prog 155 #[.slice ao n c] w (Coded w (nat zs)):=by
 subst hl
 have HN:=Lib.hid (New_ok ao c zs w h hv hm)
 clear h hv hm
 go_enter Tryz.func155,Tryz.ntmps155
 go_wp2_with (first
  | (go_at_call 171;(refine HN.out.mono ?_);rintro e w2 ⟨pc,rfl,hc,hb⟩;have HC:=Lib.hid hc;have HB:=Lib.hid hb;clear hc hb)
  | (go_at_call 135;(with_reducible refine (must_yes _ _).mono ?_);rintro e w4 ⟨rfl,rfl⟩))
 go_ret
 exact ⟨pc,rfl,HC.out,HB.out⟩
theorem codeOf_no (ao:Option Addr) (c n:Nat) (zs:List Int) (w:World) (h:IS w ao zs) (hl:zs.length=n) (hv:Vd zs) (hm:32768<room (nat zs)):Calls Tryz.prog 155 #[.slice ao n c] w fun e w'=>e=pan 10∧Below w.heap.size w w':=by
 subst hl
 have HN:=Lib.hid (New_form ao c zs w h hv hm)
 clear h hv hm
 go_enter Tryz.func155,Tryz.ntmps155
 go_wp2_with (first
  | (go_at_call 171;(refine HN.out.mono ?_);rintro e w2 ⟨rfl,hb⟩;have HB:=Lib.hid hb;clear hb)
  | (go_at_call 135;(refine (must_no 10 _).mono ?_);rintro e w4 ⟨rfl,rfl⟩))
 exact ⟨rfl,rfl,HB.out⟩
theorem index_any (ao:Option Addr) (c:Nat) (zs:List Int) (x:Int) (w:World) (h:IS w ao zs) (hl:zs.length≤1000) :
  Calls Tryz.prog 186 #[.slice ao zs.length c,.int .i64 x] w fun e w'=>(∃ j:Int,e = .returned (.int .i64 j)∧(0≤j↔x∈zs))∧w=w':=by
 have HI:=Lib.hid h
 clear h
 go_enter Tryz.func186,Tryz.ntmps186
 go_wp2
 go_loop [8] (fun iv'=>∃ k:Nat,k≤zs.length∧iv' = .int .i64 k∧Hid (x∉zs.take k)) (fun iv'=>zs.length-(intOf iv').toNat)
 case atStart=>exact ⟨0,Nat.zero_le _,rfl,Lib.hid (by simp)⟩
 case round=>
  obtain ⟨k,hk,rfl,hn⟩:=hrel
  by_cases hlt:k<zs.length
  ·obtain ⟨b,off,rfl,hc⟩:=HI.out.at hlt
   obtain ⟨y,hy⟩:∃ y,y=zs.getD k 0:=⟨_,rfl⟩
   rw [←hy] at hc
   have HY:Hid (zs.take (k+1)=zs.take k++[y]):=Lib.hid (by rw [List.take_succ_eq_append_getElem hlt,hy];simp [List.getD,hlt])
   have HM:Hid (y∈zs):=Lib.hid (by rw [hy];exact getD_mem hlt)
   clear hy
   have hlt':(k:Int)<zs.length:=by omega
   by_cases he:x=y
   ·have d1:(x == y)=true:=by simpa using he
    have HE:=Lib.hid he
    clear he
    go_wp2
    go_ret
    exact ⟨⟨k,rfl,⟨fun _=>by rw [HE.out];exact HM.out,fun _=>by omega⟩⟩,rfl⟩
   ·have d1:(x == y)=false:=by simpa using he
    have HE:=Lib.hid he
    clear he
    go_wp2
    go_round
    case rel=>exact ⟨k+1,by omega,by go_num,Lib.hid (by rw [HY.out];intro hm;rcases List.mem_append.1 hm with hm | hm;exact hn.out hm;exact HE.out (List.mem_singleton.1 hm))⟩
    case measure=>simp [intOf];omega
  ·have hge:(zs.length:Int)≤k:=by omega
   have HN2:Hid (x∉zs):=Lib.hid (by have:=hn.out;rwa [List.take_of_length_le (by omega)] at this)
   go_wp2
   go_ret
   exact ⟨⟨-1,rfl,⟨fun h=>by omega,fun h=>absurd h HN2.out⟩⟩,rfl⟩
theorem contains_any (ao:Option Addr) (c:Nat) (zs:List Int) (x:Int) (w:World) (h:IS w ao zs) (hl:zs.length≤1000) :
  Calls Tryz.prog 174 #[.slice ao zs.length c,.int .i64 x] w fun e w'=>e = .returned (.bool (decide (x∈zs)))∧w=w':=by
 have HI:=Lib.hid (index_any ao c zs x w h hl)
 clear h
 go_enter Tryz.func174,Tryz.ntmps174
 go_wp2_with (go_at_call 186;(refine HI.out.mono ?_);rintro e w2 ⟨⟨j,rfl,hj⟩,rfl⟩;have HJ:=Lib.hid hj;clear hj)
 go_ret
 exact ⟨ret_bool (by have:=HJ.out;simp only [this]),rfl⟩
theorem mem_nat {zs:List Int} (hv:Vd zs):(1:Int)∈zs↔1∈nat zs:=by
 unfold nat
 rw [List.mem_map]
 constructor
 ·intro h;exact ⟨1,h,rfl⟩
 ·rintro ⟨z,hz,he⟩
  have:=hv.all z hz
  have:z=1:=by omega
  rwa [this] at hz
theorem isFull_any (p:Nat) (ao:Option Addr) (c n:Nat) (zs:List Int) (w:World) (h:CodeAt w p (nat zs)) (hi:IS w ao zs) (hl:zs.length=n) (hv:Vd zs) :
  Calls Tryz.prog 158 #[.pointer (some ⟨p,0,none⟩),.slice ao n c] w fun e w'=>e = .returned (.bool (whole (nat zs)))∧Below w.heap.size w w':=by
 subst hl
 have hlen:=hv.len
 have HC:=Lib.hid (Complete_any p (nat zs) w h)
 by_cases h1:room (nat zs)=32768
 ·have hw:whole (nat zs)=true:=by unfold whole;simp [h1]
  rw [hw]
  simp only [h1,decide_true] at HC
  clear h hi hv h1 hw
  go_enter Tryz.func158,Tryz.ntmps158
  go_wp2_with (go_at_call 172;(refine HC.out.mono ?_);rintro e w2 ⟨rfl,hb⟩;have HB:=Lib.hid hb;clear hb)
  go_ret
  exact ⟨rfl,HB.out⟩
 ·simp only [h1,decide_false] at HC
  have HS:=Lib.hid fun W (hb:Below w.heap.size w W)=>Symbols_any p (nat zs) W (h.below hb)
  obtain ⟨m,hm⟩:∃ m,m=many (nat zs):=⟨_,rfl⟩
  rw [←hm] at HS
  have hmb:m≤10000:=by
   rw [hm]
   have:=fp_le (nat zs) (by rw [nat_len];exact hlen) 16
   unfold many
   omega
  by_cases h2:m=1
  ·have hw:whole (nat zs)=decide ((1:Int)∈zs):=by
    unfold whole
    rw [←hm]
    simp [h1,h2,mem_nat hv]
   rw [hw]
   have HK:=Lib.hid fun W (hb:Below w.heap.size w W)=>contains_any ao c zs 1 W (hi.below hb) (by omega)
   obtain ⟨b,hb0⟩:∃ b,b=decide ((1:Int)∈zs):=⟨_,rfl⟩
   rw [←hb0] at HK ⊢
   have d1:((m:Int) == 1)=true:=by simp [h2]
   clear h hi hv h1 hw h2 hm hb0
   go_enter Tryz.func158,Tryz.ntmps158
   go_wp2_with (first
    | (go_at_call 172;(refine HC.out.mono ?_);rintro e w2 ⟨rfl,hb⟩;have HB:=Lib.hid hb;clear hb)
    | (go_at_call 159;(refine (HS.out _ HB.out).mono ?_);rintro e w3 ⟨rfl,rfl⟩)
    | (go_at_call 174;(refine (HK.out _ HB.out).mono ?_);rintro e w3 ⟨rfl,rfl⟩))
   go_ret
   exact ⟨rfl,HB.out⟩
  ·have hw:whole (nat zs)=false:=by
    unfold whole
    rw [←hm]
    simp [h1,h2]
   rw [hw]
   have d1:((m:Int) == 1)=false:=by simp;omega
   clear h hi hv h1 hw h2 hm
   go_enter Tryz.func158,Tryz.ntmps158
   go_wp2_with (first
    | (go_at_call 172;(refine HC.out.mono ?_);rintro e w2 ⟨rfl,hb⟩;have HB:=Lib.hid hb;clear hb)
    | (go_at_call 159;(refine (HS.out _ HB.out).mono ?_);rintro e w3 ⟨rfl,rfl⟩))
   go_ret
   exact ⟨rfl,HB.out⟩
section
variable {B K p pb:Nat} {g:Option Nat} {bs:List Nat} {lim:Nat} {w:World} {ov:Value} {s:Sta}
theorem RS.setFix (h:RS B K p pb g bs lim w ov s) (K':Nat) (v:Value) (hv:FixAt w K' v) :
  RS B K' p pb g bs lim (w.setCell ⟨p,5,none⟩ v) ov s∧Mv p pb w ov (w.setCell ⟨p,5,none⟩ v) ov:=by
 obtain ⟨n1,n2,n3⟩:=h.ne
 have ht:Touch (fun k=>k=p) w (w.setCell ⟨p,5,none⟩ v):=(Touch.refl _ w).setCell _ _ (.inl rfl)
 have hT:Touch (FT p pb ov) w (w.setCell ⟨p,5,none⟩ v):=ht.mono fun i hi => .inl hi
 obtain ⟨fx,hb,hf⟩:=h.blk
 exact ⟨⟨⟨v,hb.setCell 5 _,hv.safe hT h.safe⟩,h.ob.touch ht fun k hk e=>by rcases hk with hk | hk;exact n1 (e.symm.trans hk);exact (n3 k hk).1 e,ownsRow_touch h.own ht fun i hi e=>(n2 i hi).1 e,h.hp,h.row,h.len,h.lim_,h.in_,h.out,h.steps,h.blocks,h.bytes⟩,hT,fun _ x => .inl x⟩
def Two2 (B p pb:Nat) (g:Option Nat) (bs:List Nat) (lim:Nat) (w:World) (ov:Value) (s:Sta) (fl ol:List Nat) (e:Ending) (w':World):Prop:=
 ∃ p1 p2,e = .returned (.agg #[.pointer (some ⟨p1,0,none⟩),.pointer (some ⟨p2,0,none⟩)])∧CodeAt w' p1 fl∧CodeAt w' p2 ol∧(∃ K',K'≤w'.heap.size∧RS B K' p pb g bs lim w' ov s)∧Mv p pb w ov w' ov
theorem fix_vd1:Vd fixFZ:=⟨by decide +kernel,by decide +kernel⟩
theorem fix_vd2:Vd fixOZ:=⟨by decide +kernel,by decide +kernel⟩
theorem fix_room1:room (nat fixFZ)≤32768:=by decide +kernel
theorem fix_room2:room (nat fixOZ)≤32768:=by decide +kernel
theorem fx_facts {w4 W:World} {p1 p2 r:Nat} (hrw:w.heap.size≤r) (h:RS B K p pb g bs lim w ov s) (hb:Below w.heap.size w w4) (hv:Blk w4 r 203 #[.pointer none,.pointer none]) (k1:CodeAt w4 p1 fixF) (k2:CodeAt w4 p2 fixO)
  (hq:Blk W w4.heap.size 203 #[.pointer (some ⟨p1,0,none⟩),.pointer (some ⟨p2,0,none⟩)]) (ht:Touch (fun _=>False) w4 W) :
  (∃ fx5,W.cell? ⟨p,5,none⟩=some fx5)∧W.frozen? ⟨p,5,none⟩=false∧p≠r∧p≠w4.heap.size∧r≠w4.heap.size∧W.cell? ⟨r,0,none⟩=some (.pointer none)∧W.cell? ⟨r,1,none⟩=some (.pointer none)∧
  W.frozen? ⟨r,0,none⟩=false∧W.frozen? ⟨r,1,none⟩=false∧W.cell? ⟨w4.heap.size,0,none⟩=some (.pointer (some ⟨p1,0,none⟩))∧W.cell? ⟨w4.heap.size,1,none⟩=some (.pointer (some ⟨p2,0,none⟩))∧
  ∀ W6,Touch (fun k=>k=r) (W.setCell ⟨p,5,none⟩ (.pointer (some ⟨w4.heap.size,0,none⟩))) W6→(∃ K',K'≤W6.heap.size∧RS B K' p pb g bs lim W6 ov s)∧Mv p pb w ov W6 ov∧CodeAt W6 p1 fixF∧CodeAt W6 p2 fixO:=by
 have hbW:Below w4.heap.size w4 W:=ht.below (Nat.le_refl _) fun _ h=>h.elim
 obtain ⟨h5,m5⟩:=h.grow (hb.trans (hbW.mono hb.size))
 obtain ⟨fx5,hb5,_⟩:=h5.blk
 have v5:=hv.below hbW
 have c1:=k1.below hbW
 have c2:=k2.below hbW
 have hx:FixAt W W.heap.size (.pointer (some ⟨w4.heap.size,0,none⟩)) := .inr ⟨_,p1,p2,rfl,hq,c1.in_,c2.in_,hq.lt⟩
 obtain ⟨h6,m6⟩:=h5.setFix _ _ hx
 have i1:=c1.in_
 have i2:=c2.in_
 have hpr:p≠r:=by
  rintro rfl
  rw [Blk,hb5] at v5
  simp at v5
 obtain ⟨fx0,hb0,_⟩:=h.blk
 have hp0:=hb0.lt
 have hsz:=hb.size
 have hr0:=hv.lt
 have hsf:=h5.safe
 have d1:=i1.safe m6.touch hsf
 have d2:=i2.safe m6.touch hsf
 have hq6:=hq.safe m6.touch hsf (by decide)
 have hv6:=v5.safe m6.touch hsf (by decide)
 have hb6:=hb5.setCell 5 (.pointer (some ⟨w4.heap.size,0,none⟩))
 refine ⟨⟨fx5,(hb5.cell 5).trans rfl⟩,hb5.free 5,hpr,by omega,by omega,(v5.cell 0).trans rfl,(v5.cell 1).trans rfl,v5.free 0,v5.free 1,(hq.cell 0).trans rfl,(hq.cell 1).trans rfl,?_⟩
 intro W6 ht6
 have e1:=d1.aside hv6 ht6 ⟨by decide,by decide,fun h=>absurd h (by decide)⟩
 have e2:=d2.aside hv6 ht6 ⟨by decide,by decide,fun h=>absurd h (by decide)⟩
 obtain ⟨sv,o1,o2,o3⟩:=h6.ob.blk
 refine ⟨⟨W.heap.size,Nat.le_trans (by simp) ht6.size,⟨_,hb6.touch ht6 hpr,.inr ⟨_,p1,p2,rfl,hq6.touch ht6 (by omega),e1,e2,hq.lt⟩⟩,h6.ob.touch ht6 ?_,ownsRow_touch h6.own ht6 ?_,h6.hp,h6.row,h6.len,h6.lim_,h6.in_,h6.out,h6.steps,h6.blocks,h6.bytes⟩,?_,e1.at_,e2.at_⟩
 ·rintro k (rfl | hk) e
  ·subst e
   rw [Blk,o1] at hv6
   simp at hv6
  ·subst e
   rw [←o2] at hk
   obtain ⟨cs,hc⟩:=own_ty o3 hk
   rw [Blk,hc] at hv6
   simp at hv6
 ·intro k hk e
  subst e
  obtain ⟨cs,hc⟩:=own_ty h6.own hk
  rw [Blk,hc] at hv6
  simp at hv6
 ·exact ⟨(m5.trans m6).touch.trans' ht6 (fun i hi hlt=>by omega),fun k hk => .inl hk⟩
set_option maxHeartbeats 1600000 in
theorem fixedCodes_any (h:RS B K p pb g bs lim w ov s) (hK:K≤w.heap.size):Calls Tryz.prog 138 #[.pointer (some ⟨p,0,none⟩)] w (Two2 B p pb g bs lim w ov s fixF fixO):=by
 obtain ⟨fx,hb,hf⟩:=h.blk
 rcases hf with rfl | ⟨q,p1,p2,rfl,hq,hc1,hc2,_⟩
 ·have c5:=(hb.cell 5).trans (show _=some (.pointer none) from rfl)
  have hpl:=hb.lt
  have H:=Lib.hid h
  have e1:∀ W:World,(binOp BinOp.eql 166 (.pointer none) (.pointer none)).run Tryz.prog W = .ok (.bool true) W:=fun _=>by kernel_rfl
  clear h hb
  go_enter Tryz.func138,Tryz.ntmps138
  go_wp2_with (go_at_call 154;(refine (Fixed_any _).mono ?_);rintro e w2 ⟨a1,c1,a2,c2,rfl,i1,i2,hb2⟩;have I1:=Lib.hid i1;have I2:=Lib.hid i2;have HB2:=Lib.hid hb2;clear i1 i2 hb2)
  obtain ⟨r,hr⟩:∃ r,r=w.heap.size:=⟨_,rfl⟩
  have HV:Hid (Blk w2 r 203 #[.pointer none,.pointer none]):=Lib.hid (by rw [hr];exact (Blk.made w 203 _).below HB2.out)
  have HBw:Hid (Below r w w2):=Lib.hid (by rw [hr];exact ((Below.refl _ w).alloc (Nat.le_refl _) _).trans (HB2.out.mono (by simp)))
  have HRr:=Lib.hid hr
  rw [←hr]
  clear hr HB2
  refine (codeOf_yes a1 c1 288 fixFZ _ I1.out fixFZ_len fix_vd1 fix_room1).mono ?_
  rintro e w3 ⟨p1,rfl,k1,b3⟩
  have K1:=Lib.hid k1
  have B3:=Lib.hid b3
  have I3:=Lib.hid (I2.out.below b3)
  clear k1 b3 I1 I2
  go_wp2_with fail
  refine (codeOf_yes a2 c2 32 fixOZ _ I3.out fixOZ_len fix_vd2 fix_room2).mono ?_
  rintro e w4 ⟨p2,rfl,k2,b4⟩
  have hB4:Below w.heap.size w w4:=by
   have s0:=HBw.out.size
   have s3:=B3.out.size
   have hr:=HRr.out
   rw [hr] at HBw
   exact HBw.out.trans ((B3.out.mono (by omega)).trans (b4.mono (by omega)))
  have FF:=Lib.hid fun W hq ht=>fx_facts (W:=W) (by rw [HRr.out];exact Nat.le_refl _) H.out hB4 ((HV.out.below B3.out).below b4) (fixFZ_nat ▸ K1.out.below b4) (fixOZ_nat ▸ k2) hq ht
  clear hB4 b4 k2 K1 B3 I3 HBw HV H
  go_wp2_with (refine wpList_box_row rfl 203 (.tmp 19) rfl #[.pointer (some ⟨p1,0,none⟩),.pointer (some ⟨p2,0,none⟩)] rfl ?_;intro W hbq htq hsq;obtain ⟨⟨fx5,k5⟩,f5,n1,n2,n3,r0,r1,g0,g1,q0,q1,FIN⟩:=FF.out W hbq htq;have FI:=Lib.hid FIN;clear hbq htq hsq FIN;obtain ⟨q,hq⟩:∃ q,q=w4.heap.size:=⟨_,rfl⟩;rw [←hq] at n2 n3 q0 q1 FI ⊢;clear hq)
  refine bodyPost_ret (v := .agg #[.pointer (some ⟨p1,0,none⟩),.pointer (some ⟨p2,0,none⟩)]) (by simp [results,Tryz.results138,go_sem,r0,r1]) rfl ?_
  obtain ⟨f1,f2,f3,f4⟩:=FI.out _ (((Touch.refl (fun k=>k=r) (W.setCell ⟨p,5,none⟩ (.pointer (some ⟨q,0,none⟩)))).setCell ⟨r,0,none⟩ (.pointer (some ⟨p1,0,none⟩)) (.inl rfl)).setCell ⟨r,1,none⟩ (.pointer (some ⟨p2,0,none⟩)) (.inl rfl))
  exact ⟨p1,p2,rfl,f3,f4,f1,f2⟩
 ·have c5:=(hb.cell 5).trans (show _=some (.pointer (some ⟨q,0,none⟩)) from rfl)
  have q0:=(hq.cell 0).trans (show _=some (.pointer (some ⟨p1,0,none⟩)) from rfl)
  have q1:=(hq.cell 1).trans (show _=some (.pointer (some ⟨p2,0,none⟩)) from rfl)
  have hpl:=hb.lt
  have hql:=hq.lt
  have H:=Lib.hid h
  have C1:=Lib.hid hc1.at_
  have C2:=Lib.hid hc2.at_
  clear h hb hq hc1 hc2
  go_enter Tryz.func138,Tryz.ntmps138
  go_wp2
  refine bodyPost_ret (v := .agg #[.pointer (some ⟨p1,0,none⟩),.pointer (some ⟨p2,0,none⟩)]) (by simp [results,Tryz.results138,go_sem]) rfl ?_
  have hA:Below w.heap.size w (w.alloc (.cells #[.pointer (some ⟨p1,0,none⟩),.pointer (some ⟨p2,0,none⟩)] 203)):=(Below.refl _ w).alloc (Nat.le_refl _) _
  obtain ⟨h2,m2⟩:=H.out.grow hA
  exact ⟨p1,p2,rfl,C1.out.below hA,C2.out.below hA,⟨K,Nat.le_trans hK hA.size,h2⟩,m2⟩
end
end
end Go.Proofs.YthbbpooobaahiaaGreatDoor
namespace Go.Proofs.YthbbpooobaahiaaGreatDoor.Z
set_option maxRecDepth 100000
section
open Go.RowKit
structure Touch (S:Nat→Prop) (w w':World):Prop where
 os:w'.os=w.os
 tape:w'.tape=w.tape
 output:w'.output=w.output
 size:w.heap.size≤w'.heap.size
 block:∀ k,k<w.heap.size→¬S k→w'.heap[k]? = w.heap[k]?
theorem Touch.refl (S:Nat→Prop) (w:World):Touch S w w:=⟨rfl,rfl,rfl,Nat.le_refl _,fun _ _ _=>rfl⟩
theorem Touch.setCell {S:Nat→Prop} {a w:World} (h:Touch S a w) (p:Addr) (u:Value) (hp:S p.block∨a.heap.size≤p.block):Touch S a (w.setCell p u):=
 ⟨h.os,h.tape,h.output,Nat.le_trans h.size (by simp [World.setCell]),fun k hk hs=>(Below.heap_setCell _ _ _ _ (fun e=>by subst e;rcases hp with hp | hp;exact hs hp;omega)).trans (h.block k hk hs)⟩
theorem Touch.grown {S:Nat→Prop} {a w w':World} {row:Option Nat} (h:Touch S a w) (hg:w.grownBy w' row) (hr:∀ k,row=some k→S k∨a.heap.size≤k):Touch S a w':=
 ⟨hg.os.trans h.os,hg.tape.trans h.tape,hg.output.trans h.output,Nat.le_trans h.size hg.size,fun k hk hs=>
  (hg.block k (Nat.lt_of_lt_of_le hk h.size) (fun e=>by rcases hr k e.symm with hp | hp;exact hs hp;omega)).trans (h.block k hk hs)⟩
theorem Touch.below {S:Nat→Prop} {a b:World} {B:Nat} (h:Touch S a b) (hB:B≤a.heap.size) (hS:∀ k,S k→B≤k):Below B a b:=
 ⟨h.os,h.tape,h.output,h.size,fun k hk=>h.block k (by omega) fun s=>by have:=hS k s;omega⟩
theorem ownsRow_touch {S:Nat→Prop} {w w':World} {base:Nat} {e:TypeId} {size:Nat} {v:Value} {n:Nat} {xs:List Value} (h:w.ownsRow base e size v n xs) (ht:Touch S w w') (hs:∀ k,v.ownBlock=some k→¬S k):w'.ownsRow base e size v n xs:=by
 refine ⟨h.1,?_⟩
 rcases h.2 with hn | ⟨g,cap,cur,rfl,hb,hgg,rest⟩
 ·exact .inl hn
 ·refine .inr ⟨g,cap,cur,rfl,hb,?_,rest⟩
  rw [ht.block g (Array.getElem?_eq_some_iff.1 hgg).1 (hs g (by simp [Value.ownBlock]))]
  exact hgg
theorem own_shape {w:World} {base:Nat} {e:TypeId} {size:Nat} {v:Value} {n:Nat} {xs:List Value} (h:w.ownsRow base e size v n xs):∃ a c,v = .slice a n c:=by
 rcases h.2 with ⟨rfl,rfl⟩ | ⟨g,cap,cur,rfl,_⟩
 ·exact ⟨_,_,rfl⟩
 ·exact ⟨_,_,rfl⟩
theorem own_base {w:World} {base base':Nat} {e:TypeId} {size:Nat} {v:Value} {n:Nat} {xs:List Value} (h:w.ownsRow base e size v n xs) (hb:base'≤base):w.ownsRow base' e size v n xs:=by
 refine ⟨h.1,?_⟩
 rcases h.2 with h2 | ⟨g,cap,cur,hv,hg,r⟩
 ·exact .inl h2
 ·exact .inr ⟨g,cap,cur,hv,Nat.le_trans hb hg,r⟩
theorem Touch.of_below {S:Nat→Prop} {a b:World} (h:Below a.heap.size a b):Touch S a b:=⟨h.os,h.tape,h.output,h.size,fun k hk _=>h.block k hk⟩
def Blk (w:World) (g:Nat) (t:TypeId) (cs:Array Value):Prop:=w.heap[g]? = some (.cells cs t (0,0))
theorem Blk.lt {w:World} {g:Nat} {t:TypeId} {cs:Array Value} (h:Blk w g t cs):g<w.heap.size:=by
 rcases Nat.lt_or_ge g w.heap.size with hlt | hge
 ·exact hlt
 ·rw [Blk,Array.getElem?_eq_none hge] at h;cases h
theorem Blk.cell {w:World} {g:Nat} {t:TypeId} {cs:Array Value} (h:Blk w g t cs) (i:Nat):w.cell? ⟨g,i,none⟩=cs[i]? := cell_of_row w g i cs t (0,0) h
theorem Blk.free {w:World} {g:Nat} {t:TypeId} {cs:Array Value} (h:Blk w g t cs) (i:Nat):w.frozen? ⟨g,i,none⟩=false:=by
 rw [Blk] at h
 simp [World.frozen?,h]
theorem Blk.made (w:World) (t:TypeId) (cs:Array Value):Blk (w.alloc (.cells cs t)) w.heap.size t cs:=by
 show (w.heap.push _)[w.heap.size]? = _
 simp
theorem Blk.below {w w':World} {g:Nat} {t:TypeId} {cs:Array Value} (h:Blk w g t cs) (hb:Below w.heap.size w w'):Blk w' g t cs:=(hb.block g h.lt).trans h
theorem Blk.low {w w':World} {B g:Nat} {t:TypeId} {cs:Array Value} (h:Blk w g t cs) (hb:Below B w w') (hg:g<B):Blk w' g t cs:=(hb.block g hg).trans h
theorem Blk.setCell {w:World} {g:Nat} {t:TypeId} {cs:Array Value} (h:Blk w g t cs) (i:Nat) (u:Value):Blk (w.setCell ⟨g,i,none⟩ u) g t (cs.setIfInBounds i u):=by
 rw [Blk] at h ⊢
 simp [World.setCell,Array.getElem?_modify,h]
section
variable {P:Program} {ops:Array Oper} {rest:List Oper} {o:Oper} {a:Act} {w:World} {Q:Exit→Act→World→Prop}
end
def IS (w:World) (ao:Option Addr) (zs:List Int):Prop:=
 zs=[]∨∃ b off,ao=some ⟨b,off,none⟩∧∀ j,j<zs.length→w.cell? ⟨b,off+j,none⟩=some (.int .i64 (zs.getD j 0))
theorem IS.at {w:World} {ao:Option Addr} {zs:List Int} (h:IS w ao zs) {k:Nat} (hk:k<zs.length):∃ b off,ao=some ⟨b,off,none⟩∧w.cell? ⟨b,off+k,none⟩=some (.int .i64 (zs.getD k 0)):=by
 rcases h with h | ⟨b,off,rfl,hc⟩
 ·rw [h] at hk;simp at hk
 ·exact ⟨b,off,rfl,hc k hk⟩
theorem ownsRow_below {w w':World} {base:Nat} {e:TypeId} {size:Nat} {v:Value} {n:Nat} {xs:List Value} (h:w.ownsRow base e size v n xs) (hb:Below w.heap.size w w'):w'.ownsRow base e size v n xs:=
 ownsRow_touch h (Touch.of_below (S:=fun _=>False) hb) fun _ _ h=>h
structure Apg (w:World) (base e sz:Nat) (v:Value) (n:Nat) (xs:List Value) (v':Value) (w':World):Prop where
 own:w'.ownsRow base e sz v' n xs
 touch:Touch (fun k=>v.ownBlock=some k) w w'
 row:∀ k,v'.ownBlock=some k→v.ownBlock=some k∨w.heap.size≤k
theorem Apg.below {a b:World} {base e sz n:Nat} {v1 v2:Value} {xs ys:List Value} {m:Nat} (k:Apg a base e sz v1 n xs v2 b) (h:a.ownsRow base e sz v1 m ys) (hb:base≤a.heap.size):Below base a b:=
 k.touch.below hb fun i hi=>(h.lt i hi).1
def CellsAt (w:World) (sv:Value) (m:Nat) (ys:List Value):Prop:=
 (sv = .slice none 0 0∧m=0∧ys=[])∨∃ ad c,sv = .slice (some ad) m c∧∀ j u,ys[j]? = some u→w.cell? (ad.add j)=some u
structure AT (t e:Nat) (z:Value) (size bytes:Nat):Prop where
 hu:Tryz.prog.underlying t=some (.slice e)
 info:(Tryz.prog.info? e).map (fun i=>(i.zero,i.size,i.bytes))=some (some z,size,bytes)
 zs:z.cells.size=size
 pos:0<size
theorem run_append_g {t e:Nat} {z:Value} {size bytes:Nat} (T:AT t e z size bytes) (w:World) {base:Nat} {v sv:Value} {n m:Nat} {xs ys:List Value} (ty:TypeId) (hown:w.ownsRow base e size v n xs) (hs:CellsAt w sv m ys)
  (hyl:ys.length=m*size) (h1:∀ u∈ys,u.oneCell'=true) (hbase:base≤w.heap.size) (hl:n+m≤140737488355328) (hby:(n+m)*bytes≤140737488355328) :
  ∃ v' w',(Builtin.append_ #[t,t] ty #[v,sv]).run Tryz.prog w = .ok v' w'∧Apg w base e size v (n+m) (xs++ys) v' w':=by
 obtain ⟨i0,hi,hz0,hz1,hz2⟩:=info_parts T.info
 rcases hs with ⟨rfl,rfl,rfl⟩ | ⟨ad,c,rfl,hcell⟩
 ·refine ⟨v,w,run_append_owned_none w base t ty e i0 size T.hu hi v n xs hown,?_,Touch.refl _ _,fun k hk => .inl hk⟩
  simpa using hown
 ·rcases hown.2 with ⟨rfl,hn0⟩ | ⟨g,cap,cur,rfl,hbg,hh,hnc,hcm,hcs,htake⟩
  ·subst hn0
   have hx:xs=[]:=List.eq_nil_of_length_eq_zero (by rw [hown.1,Nat.zero_mul])
   subst hx
   obtain ⟨v',w',hr,ho,hg,_⟩:=run_append_own (P:=Tryz.prog) w w.heap.size t ty e i0 z size bytes T.hu hi hz0 hz1 hz2 T.zs T.pos (.slice none 0 0) 0 [] (World.ownsRow_nil _ _ _ _) ad m c ys hyl hcell h1 (by unfold maxLen;omega) hby (Nat.le_refl _)
   exact ⟨v',w',hr,own_base ho hbase,(Touch.refl _ w).grown hg fun k hk=>by simp [Value.ownBlock] at hk,fun k hk => .inr (ho.lt k hk).1⟩
  ·by_cases hroom:n+m≤cap
   ·obtain ⟨w',hr,ho,hg⟩:=run_append_fits (P:=Tryz.prog) w base t ty e i0 size T.hu hi hz1 g n cap xs hown ad m c ys hyl hcell h1 hroom
    exact ⟨_,w',hr,ho,(Touch.refl _ w).grown hg fun k hk => .inl (by cases hk;simp [Value.ownBlock]),fun k hk => .inl (by simpa [Value.ownBlock] using hk)⟩
   ·obtain ⟨v',w',hr,ho,hg⟩:=run_append_arg_grows (P:=Tryz.prog) w t ty e i0 z size bytes T.hu hi hz0 hz1 hz2 T.zs T.pos ⟨g,0,none⟩ n cap xs hown.1 (hown.cells (by simp [Value.ownBlock])) ad m c ys hyl hcell (by omega) (by unfold maxLen;omega) hby
    exact ⟨v',w',hr,own_base ho hbase,(Touch.refl _ w).grown hg (fun k hk=>by cases hk),fun k hk => .inr (ho.lt k hk).1⟩
theorem wpList_append_g {t e:Nat} {z:Value} {size bytes:Nat} (T:AT t e z size bytes) {w:World} {ops:Array Oper} {rest:List Oper} {o:Oper} {a:Act} {Q:Exit→Act→World→Prop} (hgd:o.guard=none) (s x:Operand)
  (ho:o.op = .call { callee := .builtin .append,args := #[s,x],argTypes := #[t,t] })
  (base:Nat) (v sv:Value) (n m:Nat) (xs ys:List Value) (hs:a.eval s=v) (hx:a.eval x=sv) (hown:w.ownsRow base e size v n xs) (hsrc:CellsAt w sv m ys)
  (hyl:ys.length=m*size) (h1:∀ u∈ys,u.oneCell'=true) (hbase:base≤w.heap.size) (hl:n+m≤140737488355328) (hby:(n+m)*bytes≤140737488355328)
  (h:∀ ao c w',Apg w base e size v (n+m) (xs++ys) (.slice ao (n+m) c) w'→wpList Tryz.prog ops Q rest (a.put o.dst (.slice ao (n+m) c)) w'):wpList Tryz.prog ops Q (o::rest) a w:=by
 refine wpList_plain hgd fun K hK=>?_
 obtain ⟨v',w',hrun,hA⟩:=run_append_g T w o.type hown hsrc hyl h1 hbase hl hby
 obtain ⟨ao,c,rfl⟩:=own_shape hA.own
 unfold Oper.wp
 simp [execOp,ho,resolve,invoke,builtin,hs,hx,hrun,Result.andThen]
 exact hK _ _ (by simpa using h ao c w' hA)
def iv (zs:List Int):List Value:=zs.map fun z => .int .i64 z
theorem iv_at (zs:List Int) (j:Nat) (h:j<zs.length):(iv zs)[j]? = some (.int .i64 (zs.getD j 0)):=by simp [iv,h,List.getD]
theorem at22:AT 88 3 (.int .i64 0) 1 8:=⟨by kernel_rfl,by kernel_rfl,rfl,by omega⟩
theorem own_is {w:World} {base:Nat} {ao:Option Addr} {c n:Nat} {zs:List Int} (h:w.ownsRow base 3 1 (.slice ao n c) n (iv zs)) (hn:zs.length=n):IS w ao zs:=by
 subst hn
 rcases h.2 with ⟨e,h0⟩ | ⟨g,cap,cur,e,hbg,hh,hnc,hcm,hcs,htake⟩
 ·exact .inl (List.eq_nil_of_length_eq_zero h0)
 ·simp only [Value.slice.injEq] at e
  obtain ⟨rfl,_,rfl⟩:=e
  refine .inr ⟨g,0,rfl,fun j hj=>?_⟩
  rw [Nat.zero_add,World.ownsRow.cellAt h j (by omega),iv_at zs j hj]
def spl (s:Int):Nat:=if s=16 then 3 else if s=17 then 3 else if s=18 then 11 else 1
def spm (s:Int):Nat:=if s=16 then 6 else if s=17 then 10 else if s=18 then 138 else 1
theorem span_any (s:Int) (w:World):Calls Tryz.prog 193 #[.int .i64 s] w fun e w'=>e = .returned (.tuple #[.int .i64 (spl s:Nat),.int .i64 (spm s:Nat)])∧w'=w:=by
 by_cases h1:s=16
 ·subst h1
  go_enter Tryz.func193,Tryz.ntmps193
  go_wp2
  go_ret2
  exact ⟨rfl,rfl⟩
 ·have b1:(s == 16)=false:=by simp [h1]
  by_cases h2:s=17
  ·subst h2
   go_enter Tryz.func193,Tryz.ntmps193
   go_wp2
   go_ret2
   exact ⟨rfl,rfl⟩
  ·have b2:(s == 17)=false:=by simp [h2]
   by_cases h3:s=18
   ·subst h3
    go_enter Tryz.func193,Tryz.ntmps193
    go_wp2
    go_ret2
    exact ⟨rfl,rfl⟩
   ·have b3:(s == 18)=false:=by simp [h3]
    have e1:=Lib.hid (show spl s=1 by simp [spl,h1,h2,h3])
    have e2:=Lib.hid (show spm s=1 by simp [spm,h1,h2,h3])
    rw [e1.out,e2.out]
    clear h1 h2 h3
    go_enter Tryz.func193,Tryz.ntmps193
    go_wp2
    go_ret2
    exact ⟨rfl,rfl⟩
def Bad (l m n:Int):Prop:=n<l∨m<n
instance (l m n:Int):Decidable (Bad l m n):=inferInstanceAs (Decidable (_∨_))
structure Kept (w:World) (p q:Nat) (l m:Int):Prop where
 lo:w.cell? ⟨p,0,none⟩=some (.int .i64 l)
 hi:w.cell? ⟨q,0,none⟩=some (.int .i64 m)
def fnOut (p q:Nat):Value := .func (.func 197) #[] #[.pointer (some ⟨p,0,none⟩),.pointer (some ⟨q,0,none⟩)]
def MadeOut (l m:Int) (w:World) (e:Ending) (w':World):Prop:=∃ p q,e = .returned (fnOut p q)∧Kept w' p q l m∧Below w.heap.size w w'∧w.heap.size≤p∧w.heap.size≤q
theorem outside_any (l m:Int) (w:World):Calls Tryz.prog 194 #[.int .i64 l,.int .i64 m] w (MadeOut l m w):=by
 go_enter Tryz.func194,Tryz.ntmps194
 go_wp2
 go_ret
 refine ⟨_,_,rfl,?_,((Below.refl _ w).alloc (Nat.le_refl _) _).alloc (by simp) _,Nat.le_refl _,by simp⟩
 exact ⟨by simp,by simp⟩
theorem bad_yes (p q:Nat) (l m n:Int) (w:World) (hK:Kept w p q l m) (h:Bad l m n) :
  Calls Tryz.prog 197 #[.int .i64 n,.pointer (some ⟨p,0,none⟩),.pointer (some ⟨q,0,none⟩)] w fun e w'=>e = .returned (.bool true)∧w'=w:=by
 have h1:=hK.lo
 have h2:=hK.hi
 clear hK
 by_cases c:n<l
 ·go_enter Tryz.func197,Tryz.ntmps197
  go_wp2
  go_ret
  exact ⟨rfl,rfl⟩
 ·have c2:m<n:=by rcases h with h | h;exact absurd h c;exact h
  have c':l≤n:=Int.not_lt.mp c
  clear h c
  go_enter Tryz.func197,Tryz.ntmps197
  go_wp2
  go_ret
  exact ⟨rfl,rfl⟩
theorem bad_no (p q:Nat) (l m n:Int) (w:World) (hK:Kept w p q l m) (h:¬Bad l m n) :
  Calls Tryz.prog 197 #[.int .i64 n,.pointer (some ⟨p,0,none⟩),.pointer (some ⟨q,0,none⟩)] w fun e w'=>e = .returned (.bool false)∧w'=w:=by
 have h1:=hK.lo
 have h2:=hK.hi
 have c1:l≤n:=Int.not_lt.mp fun c=>h (.inl c)
 have c2:n≤m:=Int.not_lt.mp fun c=>h (.inr c)
 clear hK h
 have d2:decide (m<n)=false:=decide_eq_false (by omega)
 have d1:decide (n<l)=false:=decide_eq_false (by omega)
 go_enter Tryz.func197,Tryz.ntmps197
 go_wp2
 go_ret
 exact ⟨rfl,rfl⟩
def icl (r:List (Int × Int)):List Value:=r.flatMap fun x=>[.int .i64 x.1,.int .i64 x.2]
theorem icl_cons (x:Int × Int) (r:List (Int × Int)):icl (x::r) = .int .i64 x.1 :: .int .i64 x.2::icl r:=rfl
def itm (r:List (Int × Int)) (k:Nat):Int × Int:=r.getD k (0,0)
theorem icl_at (r:List (Int × Int)) (k:Nat) (h:k<r.length):(icl r)[k*2]? = some (.int .i64 (itm r k).1)∧(icl r)[k*2+1]? = some (.int .i64 (itm r k).2):=by
 induction r generalizing k with
 | nil=>simp at h
 | cons x r ih=>
  cases k with
  | zero=>exact ⟨rfl,rfl⟩
  | succ k=>
   have:=ih k (by simpa using h)
   rw [icl_cons,show (k+1)*2=k*2+1+1 by omega,List.getElem?_cons_succ,List.getElem?_cons_succ,List.getElem?_cons_succ,List.getElem?_cons_succ]
   exact this
def TS (w:World) (ao:Option Addr) (r:List (Int × Int)):Prop:=r=[]∨∃ b off,ao=some ⟨b,off,none⟩∧w.rangeAt b off (icl r)
theorem TS.on {w w':World} {ao:Option Addr} {r:List (Int × Int)} (h:TS w ao r) (hb:Below w.heap.size w w'):TS w' ao r:=by
 rcases h with h | ⟨b,off,rfl,hc⟩
 ·exact .inl h
 ·exact .inr ⟨b,off,rfl,fun j v hv=>by
   have:=hc j v hv
   exact (hb.cell (World.block_lt_of_cell? w _ this)).trans this⟩
theorem TS.at {w:World} {ao:Option Addr} {r:List (Int × Int)} (h:TS w ao r) {k:Nat} (hk:k<r.length) :
  ∃ b off,ao=some ⟨b,off,none⟩∧w.cell? ⟨b,off+k*2,none⟩=some (.int .i64 (itm r k).1)∧w.cell? ⟨b,off+k*2+1,none⟩=some (.int .i64 (itm r k).2):=by
 rcases h with rfl | ⟨b,off,rfl,hc⟩
 ·simp at hk
 ·have:=icl_at r k hk
  exact ⟨b,off,rfl,hc _ _ this.1,by have:=hc _ _ this.2;rwa [←Nat.add_assoc] at this⟩
def tv (s:Int) (ts:List Int):Int:=if s=16 then ts.getD (ts.length-1) 0 else if s=17 then 0 else if s=18 then 0 else s
set_option maxHeartbeats 4000000 in
theorem told_any (ao:Option Addr) (c:Nat) (s:Int) (ts:List Int) (w:World) (h:IS w ao ts) (hs:s=16→ts≠[]) (hl:ts.length≤1000) :
  Calls Tryz.prog 195 #[.int .i64 s,.slice ao ts.length c] w fun e w'=>e = .returned (.int .i64 (tv s ts))∧w'=w:=by
 by_cases h1:s=16
 ·subst h1
  have hn:0<ts.length:=List.length_pos_iff.2 (hs rfl)
  obtain ⟨b,o,rfl,q1⟩:=h.at (k:=ts.length-1) (by omega)
  obtain ⟨x,hx⟩:∃ x,x=ts.getD (ts.length-1) 0:=⟨_,rfl⟩
  have e0:=Lib.hid (show tv 16 ts=x by rw [tv,if_pos rfl,hx])
  rw [e0.out]
  rw [←hx] at q1
  clear hx hs h
  obtain ⟨k,hk⟩:∃ k,k=ts.length-1:=⟨_,rfl⟩
  obtain ⟨L,hL⟩:∃ L,L=ts.length:=⟨_,rfl⟩
  rw [←hk] at q1
  rw [←hL] at hk hl hn ⊢
  have e1:IntKind.i64.wrap ((L:Int)-1)=k:=by rw [IntKind.wrap_i64];omega
  have hk2:(k:Int)<L:=by omega
  clear hk hL
  go_enter Tryz.func195,Tryz.ntmps195
  go_wp2
  go_ret
  exact ⟨rfl,rfl⟩
 ·have b1:(s == 16)=false:=by simp [h1]
  clear hs h
  by_cases h2:s=17
  ·subst h2
   go_enter Tryz.func195,Tryz.ntmps195
   go_wp2
   go_ret
   exact ⟨rfl,rfl⟩
  ·have b2:(s == 17)=false:=by simp [h2]
   by_cases h3:s=18
   ·subst h3
    go_enter Tryz.func195,Tryz.ntmps195
    go_wp2
    go_ret
    exact ⟨rfl,rfl⟩
   ·have b3:(s == 18)=false:=by simp [h3]
    have e1:=Lib.hid (show tv s ts=s by simp [tv,h1,h2,h3])
    rw [e1.out]
    clear h1 h2 h3
    go_enter Tryz.func195,Tryz.ntmps195
    go_wp2
    go_ret
    exact ⟨rfl,rfl⟩
def Wi (s x:Int) (n:Nat):Prop:=Bad 0 18 s∨Bad 0 ((spm s:Int)-spl s) x∨(s=16∧n=0)∨(320-n:Int)<spl s+x
instance (s x:Int) (n:Nat):Decidable (Wi s x n):=inferInstanceAs (Decidable (_∨_))
theorem sp_lim (s:Int):1≤spl s∧spl s≤11∧spl s≤spm s∧spm s≤138:=by
 unfold spl spm
 by_cases h1:s=16
 ·simp [h1]
 ·by_cases h2:s=17
  ·simp [h2]
  ·by_cases h3:s=18
   ·simp [h3]
   ·simp [h1,h2,h3]
def un:List (Int × Int)→List Int→Option (List Int)
 | [],ts=>some ts
 | (s,x)::r,ts=>if Wi s x ts.length then none else un r (ts++List.replicate ((spl s:Int)+x).toNat (tv s ts))
end
end Go.Proofs.YthbbpooobaahiaaGreatDoor.Z
