/- Part 22. -/
import Derived.Test.YtacpfpghokcdlaaGreatDoorXA21
namespace Go.Proofs.YtacpfpghokcdlaaGreatDoor
set_option maxRecDepth 100000
section
open Go.RowKit
theorem stoP_num (pos:Nat) (b:List Nat) (last:Bool) (h8:pos%8=0) (hl:b.length≤65535):val (stoP pos b last)=num (hd8 (if last then 1 else 0) b.length++b)∧wid (stoP pos b last)=8*(hd8 (if last then 1 else 0) b.length++b).length:=by
 have hu:up8 (pos+3)-(pos+3)=5:=by unfold up8;omega
 have hw:=stoP_wid pos b last
 have hu2:up8 (pos+3)=pos+8:=by unfold up8;omega
 constructor
 ·simp only [stoP,val,val_bytes,hd8,List.cons_append,List.nil_append,num,hu,Nat.reducePow]
  omega
 ·simp only [hd8,List.length_append,List.length_cons,List.length_nil]
  omega
theorem stoC_num:∀ (f pos:Nat) (b:List Nat),pos%8=0→val (stoC f pos b true)=num (stoA f b)∧wid (stoC f pos b true)=8*(stoA f b).length:=by
 intro f
 induction f with
 | zero=>intro pos b _;exact ⟨rfl,rfl⟩
 | succ f ih=>
  intro pos b h8
  rw [stoC,stoA]
  split
  ·rename_i h;exact stoP_num pos b true h8 h
  ·have hlen:(b.take 65535).length=65535:=by rw [List.length_take];omega
   obtain ⟨a1,a2⟩:=stoP_num pos (b.take 65535) false h8 (by omega)
   rw [hlen] at a1 a2
   have e0:(if false=true then 1 else 0)=0:=rfl
   rw [e0] at a1 a2
   obtain ⟨b1,b2⟩:=ih (pos+wid (stoP pos (b.take 65535) false)) (b.drop 65535) (by rw [a2];omega)
   rw [a2] at b1 b2
   rw [val_app,wid_app,num_app,a2,a1,b1,b2]
   generalize hd8 0 65535++b.take 65535=A
   refine ⟨?_,by rw [List.length_append];omega⟩
   rw [show (256:Nat)=2^8 from rfl,←Nat.pow_mul]
theorem hd8_bs (l n:Nat) (hl:l<2) (hn:n≤65535):Bs (hd8 l n):=fun x hx=>by
 simp only [hd8,List.mem_cons,List.not_mem_nil,or_false] at hx
 rcases hx with rfl | rfl | rfl | rfl | rfl <;> omega
theorem stoA_bs:∀ (f:Nat) (b:List Nat),Bs b→Bs (stoA f b):=by
 intro f
 induction f with
 | zero=>intro b _ x hx;cases hx
 | succ f ih=>
  intro b hb
  rw [stoA]
  split
  ·rename_i h;exact (hd8_bs 1 _ (by omega) h).app hb
  ·exact ((hd8_bs 0 _ (by omega) (by omega)).app fun x hx=>hb x (List.mem_of_mem_take hx)).app (ih _ fun x hx=>hb x (List.mem_of_mem_drop hx))
theorem stoF_byts {bs:List Nat} (hb:Bs bs):byts (stoS 0 bs true)=stoF bs:=by
 obtain ⟨h1,h2⟩:=stoC_num (bs.length+1) 0 bs rfl
 have hB:=stoA_bs (bs.length+1) bs hb
 refine (holds_one (stoS_fit 0 true hb) ⟨hB,⟨?_,?_,?_⟩,h1.symm⟩).symm
 ·show wid (stoC _ _ _ _)≤_;rw [h2];exact Nat.le_refl _
 ·show _<wid (stoC _ _ _ _)+8;rw [h2];exact Nat.lt_add_of_pos_right (by omega)
 ·show num (stoA _ _)<2^wid (stoC _ _ _ _)
  rw [h2,←h1,Nat.pow_mul]
  rw [h1]
  exact num_lt hB
theorem stored_some {w:World} {b off cb:Nat} {bs:List Nat} (hs:BySl w (.slice (some ⟨b,off,none⟩) bs.length cb) bs) (hb:Bs bs) (hl:bs.length≤300000) (h0:0<bs.length) (hcb:bs.length≤cb) :
  Calls Tryz.prog 17 #[.slice (some ⟨b,off,none⟩) bs.length cb] w (Kept w (stoF bs)):=by
 obtain ⟨n,hn⟩:∃ n,n=bs.length:=⟨_,rfl⟩
 obtain ⟨w1,hw1⟩:∃ w1,w1=w.alloc (.cells #[.int .i64 (n:Nat)] 3):=⟨_,rfl⟩
 obtain ⟨q,hq⟩:∃ q,q=w.heap.size:=⟨_,rfl⟩
 have B1:Hid (Below w.heap.size w w1):=Lib.hid (by rw [hw1];exact (Below.refl _ _).alloc (Nat.le_refl _) _)
 have HI:Hid (IS w1 (some ⟨q,0,none⟩) (Y.ints [n])):=Lib.hid (by
  refine .inr ⟨q,0,rfl,fun j hj=>?_⟩
  have hj0:j=0:=by rw [Y.ints_len] at hj;simp at hj;exact hj
  subst hj0
  rw [hw1,hq,(Blk.made w 3 _).cell]
  rfl)
 have h:=stored_upto (ce:=1) (hs.grow B1.out) hb hl hcb HI.out (fun i hi=>by
  have:i=0:=by simp at hi;exact hi
  subst this
  exact ⟨by show 0<n;omega,by show n≤_;omega⟩) (by simp)
 have e:byts (stU bs [n] 0 [])=stoF bs:=by
  rw [stU,stU,hn,decide_eq_true rfl,List.nil_append,Nat.sub_zero,List.drop_zero,List.take_length]
  exact stoF_byts hb
 rw [e,←hn,show ([n]:List Nat).length=1 from rfl] at h
 have HC:=Lib.hid h
 rw [←hn]
 clear hs hb hl h0 hcb h e hn
 go_enter Tryz.func17,Tryz.ntmps17
 go_wp2_with fail
 rw [←hw1,←hq]
 clear hw1 hq
 with_reducible refine HC.out.mono ?_
 rintro e' w4 ⟨ao,c,rfl,hown,hbl⟩
 have HF:=Lib.hid (And.intro hown hbl)
 clear hown hbl HC
 go_wp2
 go_ret
 exact ⟨ao,c,rfl,own_base HF.out.1 B1.out.size,B1.out.on HF.out.2⟩
theorem bound_none (w:World) (n:Int) (h:n<0∨1099511627776<n):Calls Tryz.prog 14 #[.int .i64 n] w fun e w'=>e = .returned (.int .i64 0)∧Below w.heap.size w w':=by
 have HD:=Lib.hid (decide_eq_true h)
 clear h
 go_enter Tryz.func14,Tryz.ntmps14
 go_wp2_with fail
 refine (out_new 0 1099511627776 w).mono ?_
 rintro e w1 ⟨p,q,rfl,hK,hb,_,_⟩
 have B1:=Lib.hid hb
 have K1:=Lib.hid hK
 clear hb hK
 unfold fnO
 go_wp2_with fail
 refine (out_is p q 0 1099511627776 n w1 K1.out).mono ?_
 rw [HD.out]
 rintro e w2 ⟨rfl,rfl⟩
 go_wp2
 go_ret
 exact ⟨rfl,B1.out⟩
theorem stoA_len:∀ (fu:Nat) (bs:List Nat),bs.length<fu→(stoA fu bs).length=bnd bs.length:=by
 intro fu
 induction fu with
 | zero=>intro bs h;omega
 | succ fu ih=>
  intro bs h
  rw [stoA]
  unfold bnd
  have h5:∀ a n,(hd8 a n).length=5:=fun _ _=>rfl
  split
  ·rw [List.length_append,h5];omega
  ·have hd:(bs.drop 65535).length=bs.length-65535:=List.length_drop
   have:=ih (bs.drop 65535) (by omega)
   rw [List.length_append,List.length_append,h5,this,hd,List.length_take]
   unfold bnd
   omega
theorem stoF_len (bs:List Nat):(stoF bs).length=bnd bs.length:=stoA_len _ _ (Nat.lt_succ_self _)
theorem out_take {zs:List Int} {z:Int} {k:Nat} (hk:k<zs.length):z∉zs.take (k+1)↔z∉zs.take k∧zs.getD k 0≠z:=by
 rw [List.take_succ_eq_append_getElem hk]
 have e:zs.getD k 0=zs[k]:=by rw [List.getD_eq_getElem?_getD,List.getElem?_eq_getElem hk];rfl
 rw [e]
 simp only [List.mem_append,List.mem_singleton,not_or]
 constructor
 ·rintro ⟨h1,h2⟩;exact ⟨h1,fun h=>h2 h.symm⟩
 ·rintro ⟨h1,h2⟩;exact ⟨h1,fun h=>h2 h.symm⟩
theorem blocks_long {Tb:World→Prop} (A:Alive8 Tb) (ao bo:Option Addr) (L N c c2:Nat) (level:Int) (w:World) (hT:Tb w) (hL:L≤9223372036854775807) (hN:N≤9223372036854775807) (hl:2000<L∨30<N) :
  Calls Tryz.prog 5 #[.slice ao L c,.int .i64 level,.slice bo N c2] w fun e w'=>e = .returned (.bool true)∧Below w.heap.size w w':=by
 have HA:=Lib.hid (A w hT)
 clear hT A
 by_cases h1:2000<L
 ·have e1:(2000:Int)<L:=by omega
  clear hl h1
  go_enter Tryz.func5,Tryz.ntmps5
  go_wp2_with fail
  refine HA.out.mono ?_
  rintro e w1 ⟨rfl,hb1⟩
  have HB:=Lib.hid hb1
  clear hb1
  go_wp2
  go_ret
  exact ⟨by simp,HB.out⟩
 ·have h3:30<N:=by omega
  have e1:decide ((2000:Int)<L)=false:=by simp;omega
  have e2:decide (2000<L)=false:=by simp;omega
  have e3:(30:Int)<N:=by omega
  clear hl h1
  go_enter Tryz.func5,Tryz.ntmps5
  go_wp2_with fail
  refine HA.out.mono ?_
  rintro e w1 ⟨rfl,hb1⟩
  have HB:=Lib.hid hb1
  clear hb1
  go_wp2
  go_ret
  exact ⟨by simp,HB.out⟩
set_option maxHeartbeats 3200000 in
theorem blocks_walk {Tb:World→Prop} {D:List Nat→Nat→List Nat} {S:List Nat→List Nat} (P:Prg8 Tb D S) (A:Alive8 Tb) (ao bo:Option Addr) (c c2:Nat) (xs:List Nat) (zs:List Int) (level:Int) (w:World) (hT:Tb w) (h:BySl w (.slice ao xs.length c) xs) (hb:Bs xs) (hz:IS w bo zs) (hl:xs.length≤2000) (hl2:zs.length≤30) :
  Calls Tryz.prog 5 #[.slice ao xs.length c,.int .i64 level,.slice bo zs.length c2] w fun e w'=>e = .returned (.bool true)∧Below w.heap.size w w':=by
 have HA:=Lib.hid (A w hT)
 have HP:=Lib.hid P
 have HT:=Lib.hid hT
 have HS:=Lib.hid h
 have HB:=Lib.hid hb
 have HZ:=Lib.hid hz
 have HLX:=Lib.hid (show xs.length≤5000∧xs.length≤1000000000 from ⟨by omega,by omega⟩)
 obtain ⟨L,hL⟩:∃ L,L=xs.length:=⟨_,rfl⟩
 have HL:=Lib.hid hL
 obtain ⟨N,hN⟩:∃ N,N=zs.length:=⟨_,rfl⟩
 have HN:=Lib.hid hN
 rw [←hL] at hl ⊢
 rw [←hN] at hl2 ⊢
 have e1:decide ((2000:Int)<L)=false:=by simp;omega
 have e2:decide (2000<L)=false:=by simp;omega
 have e3:decide ((30:Int)<N)=false:=by simp;omega
 have e4:decide (30<N)=false:=by simp;omega
 clear hT h hb hz P A hL hN
 go_enter Tryz.func5,Tryz.ntmps5
 go_wp2_with fail
 refine HA.out.mono ?_
 rintro e w1 ⟨rfl,hb1⟩
 have B1:=Lib.hid hb1
 clear hb1 HA
 go_wp2_with fail
 have hBl:=HP.out.blks (c:=c2) level (HP.out.keep HT.out B1.out) (HS.out.grow B1.out) HB.out HLX.out.1 (HZ.out.below B1.out) (by rw [←HN.out];omega)
 rw [←HL.out,←HN.out] at hBl
 refine hBl.mono ?_
 clear hBl
 rintro e w2 ⟨out,hk,hob,hol,a1,s1,l1,hi1,hu1,hj1⟩
 obtain ⟨ao2,c3,rfl,hy2,hb2⟩:=hk.by
 have B2:=Lib.hid (B1.out.on hb2)
 have P2:=Lib.hid hy2
 have HO:=Lib.hid (show Bs out∧out.length≤100000 from ⟨hob,by have:=HL.out;omega⟩)
 have HI1:=Lib.hid hi1
 have HU1:=Lib.hid hu1
 have HJ:=Lib.hid hj1
 clear hk hy2 hb2 hob hol hi1 hu1 hj1
 go_wp2_with fail
 refine (Inflate_ok (limit:=(L:Int)) P2.out HO.out.1 HO.out.2 (by omega) (HP.out.tab (HP.out.keep HT.out B2.out)) (by rw [HL.out];exact HI1.out) HU1.out.symm HL.out).mono ?_
 rintro e w4 ⟨ao4,c4,rfl,bel4,an4⟩
 have g4:=Below.more (Below.refl w4.heap.size w4) (Nat.le_refl _) (.cells #[.slice ao4 L c4,.int .i64 (out.length:Nat),.int .i64 (s1:Nat),.int .i64 (l1:Nat)] 27)
 have B4:=Lib.hid ((B2.out.on bel4).on g4)
 obtain ⟨q4,hq4⟩:∃ q4,q4=w4.heap.size:=⟨_,rfl⟩
 obtain ⟨W4,hW4⟩:∃ W4,W4=w4.alloc (.cells #[.slice ao4 L c4,.int .i64 (out.length:Nat),.int .i64 (s1:Nat),.int .i64 (l1:Nat)] 27):=⟨_,rfl⟩
 have A4:Hid (Ans W4 q4 w2.heap.size (.slice ao4 L c4) xs out.length s1 l1):=Lib.hid (by rw [hW4,hq4];exact an4)
 rw [←hW4] at B4
 clear bel4 an4 g4 P2
 go_upto_region 7 with fail
 rw [←hW4,←hq4]
 clear hW4 hq4
 obtain ⟨k0,k1,k2,k3⟩:=A4.out.c
 go_wp2_with fail
 have hsm:=same_any A4.out.by (HS.out.grow B4.out) HLX.out.2
 rw [←HL.out] at hsm
 refine hsm.mono ?_
 rintro e w5 ⟨he,nq,hw5⟩
 rw [decide_eq_true rfl] at he
 subst he
 have hb5:=below_drewN (Below.refl W4.heap.size W4) nq
 rw [←hw5] at hb5
 have B5:=Lib.hid (B4.out.on hb5)
 have n1:=(A4.out.below hb5).c.2.1
 have HN3:=Lib.hid fun W (hW:Below w5.heap.size w5 W)=>((A4.out.below hb5).below hW).c.2.2.2
 clear hsm hw5 hb5 k0 k1 k2 k3 A4 B4
 have HI5:=Lib.hid fun q=>HZ.out.below (below_drewN B5.out q)
 have HLE:=Lib.hid fun i=>frp_le L zs i
 go_wp2
 go_loopg [10,11] (N+1) (fun gm v10 v11 wr=>∃ i q f:Nat,i≤N∧N+1-i≤gm∧f≤i+1∧v10 = .int .i64 (f:Nat)∧v11 = .int .i64 (i:Nat)∧wr=w5.drewN q∧Hid (f=frp L zs i+1))
 case atStart=>exact ⟨0,0,1,Nat.zero_le _,Nat.le_refl _,Nat.le_refl _,rfl,rfl,rfl,Lib.hid rfl⟩
 case round=>
  obtain ⟨i,q,f,hi,hgm,hf,rfl,rfl,rfl,HF⟩:=hrel
  by_cases hlt:i<N
  ·have hlt':(i:Int)<N:=by omega
   obtain ⟨bz,oz,rfl,c1⟩:=(HI5.out q).at (k:=i) (by rw [←HN.out];exact hlt)
   obtain ⟨z,hz⟩:∃ z,z=zs.getD i 0:=⟨_,rfl⟩
   rw [←hz] at c1
   have HZE:=Lib.hid hz
   clear hz
   go_upto_region 13 with fail
   go_cut [12] from 51 to 90 (fun s12 wx=>s12 = .bool (decide (0<z∧z<(L:Int)))∧wx=w5.drewN q)
   case first=>
    by_cases r1:0<z
    ·by_cases r2:z<(L:Int)
     ·go_wp2
      go_meet
      case rel=>exact ⟨by simp [r1,r2],rfl⟩
     ·have r2':decide (z<(L:Int))=false:=by simp;omega
      go_wp2
      go_meet
      case rel=>exact ⟨by simp [r2],rfl⟩
    ·have r1':decide (0<z)=false:=by simp;omega
     go_wp2
     go_meet
     case rel=>exact ⟨by rw [decide_eq_false (p:=0<z∧z<(L:Int)) (by omega)],rfl⟩
   case rest=>
   obtain ⟨rfl,hwx⟩:=hcut
   rw [hwx]
   clear hwx
   obtain ⟨b0,hb0⟩:∃ b0,b0=decide (0<z∧z<(L:Int)):=⟨_,rfl⟩
   have HB0:Hid (b0=decide ((0<z∧z<(L:Int))∧z∉zs.take 0)):=Lib.hid (by rw [hb0];simp)
   rw [←hb0]
   clear hb0 c1
   go_wp2
   go_loopg [12,13] (i+1) (fun gm v12 v13 wr=>∃ (k q2:Nat) (bk:Bool),k≤i∧i+1-k≤gm∧v12 = .bool bk∧v13 = .int .i64 (k:Nat)∧wr=w5.drewN q2∧Hid (bk=decide ((0<z∧z<(L:Int))∧z∉zs.take k)))
   case atStart=>exact ⟨0,q,b0,Nat.zero_le _,Nat.le_refl _,rfl,rfl,rfl,HB0⟩
   case round=>
    clear HB0
    obtain ⟨k,q2,bk,hk,hgk,rfl,rfl,rfl,HBK⟩:=hrel
    by_cases hki:k<i
    ·have hki':(k:Int)<i:=by omega
     have hkN:(k:Int)<N:=by omega
     obtain ⟨b1,o1,he1,c1⟩:=(HZ.out.below B5.out).at (k:=i) (by rw [←HN.out];exact hlt)
     obtain ⟨b2,o2,he2,c2x⟩:=(HZ.out.below B5.out).at (k:=k) (by rw [←HN.out];omega)
     simp only [Option.some.injEq,Addr.mk.injEq,and_true] at he1 he2
     obtain ⟨rfl,rfl⟩:=he1
     obtain ⟨rfl,rfl⟩:=he2
     rw [←HZE.out] at c1
     obtain ⟨y,hy⟩:∃ y,y=zs.getD k 0:=⟨_,rfl⟩
     rw [←hy] at c2x
     have HST:=Lib.hid (out_take (zs:=zs) (z:=z) (k:=k) (by rw [←HN.out];omega))
     have HY:=Lib.hid hy
     clear hy
     cases bk with
     | true=>
      by_cases hyz:y=z
      ·have hyz':(y != z)=false:=by simp [hyz]
       have hyz2:(y == z)=true:=by simp [hyz]
       have hkn:((k:Int)).toNat=k:=rfl
       have HB2:Hid (false=decide ((0<z∧z<(L:Int))∧z∉zs.take (k+1))):=Lib.hid (by
        symm;rw [decide_eq_false_iff_not,HST.out,←HY.out];exact fun e=>e.2.2 hyz)
       go_wp2
       go_quiet (fail)
       go_wp2
       go_roundg (i+1-(k+1))
       case measure=>omega
       case rel=>exact ⟨k+1,_,false,by omega,Nat.le_refl _,rfl,by simp,(by first | rfl | exact World.drewN_drewN _ _ _),HB2⟩
      ·have hyz':(y != z)=true:=by simp [hyz]
       have hyz2:(y == z)=false:=by simp [hyz]
       have hkn:((k:Int)).toNat=k:=rfl
       have HB2:Hid (true=decide ((0<z∧z<(L:Int))∧z∉zs.take (k+1))):=Lib.hid (by
        have h1:=of_decide_eq_true HBK.out.symm
        symm;rw [decide_eq_true_iff,HST.out,←HY.out];exact ⟨h1.1,h1.2,hyz⟩)
       go_wp2
       go_quiet (fail)
       go_wp2
       go_roundg (i+1-(k+1))
       case measure=>omega
       case rel=>exact ⟨k+1,_,true,by omega,Nat.le_refl _,rfl,by simp,(by first | rfl | exact World.drewN_drewN _ _ _),HB2⟩
     | false=>
      have HB2:Hid (false=decide ((0<z∧z<(L:Int))∧z∉zs.take (k+1))):=Lib.hid (by
       have h1:=of_decide_eq_false HBK.out.symm
       symm;rw [decide_eq_false_iff_not,HST.out];exact fun e=>h1 ⟨e.1,e.2.1⟩)
      go_wp2
      go_quiet (fail)
      go_wp2
      go_roundg (i+1-(k+1))
      case measure=>omega
      case rel=>exact ⟨k+1,_,false,by omega,Nat.le_refl _,rfl,by simp,(by first | rfl | exact World.drewN_drewN _ _ _),HB2⟩
    ·obtain rfl:k=i:=by omega
     have HST:Hid (frp L zs (k+1)=frp L zs k+if bk=true then 1 else 0):=Lib.hid (by
      rw [frp,←HZE.out,HBK.out]
      congr 1
      by_cases hh:0<z∧z<(L:Int)∧z∉zs.take k
      ·rw [if_pos hh,if_pos (decide_eq_true ⟨⟨hh.1,hh.2.1⟩,hh.2.2⟩)]
      ·rw [if_neg hh,if_neg (fun e=>hh (by have:=of_decide_eq_true e;exact ⟨this.1.1,this.1.2,this.2⟩))])
     have e9:IntKind.i64.wrap ((f:Int)+1)=(f:Int)+1:=by rw [IntKind.wrap_i64];omega
     clear HBK
     cases bk with
     | true=>
      go_wp2
      go_roundg (N+1-(k+1))
      case measure=>omega
      case rel=>exact ⟨k+1,q2,f+1,by omega,Nat.le_refl _,by omega,by simp,by simp,rfl,Lib.hid (by rw [HST.out,HF.out];simp)⟩
     | false=>
      go_wp2
      go_roundg (N+1-(k+1))
      case measure=>omega
      case rel=>exact ⟨k+1,q2,f,by omega,Nat.le_refl _,by omega,by simp,by simp,rfl,Lib.hid (by rw [HST.out,HF.out];simp)⟩
  ·obtain rfl:i=N:=by omega
   have n3:=HN3.out _ (below_drewN (Below.refl w5.heap.size w5) q)
   have hge:(f:Int)≤l1:=by
    have h1:=HJ.out
    have h2:=HF.out
    unfold fr at h1
    rw [←HN.out] at h1
    omega
   go_wp2
   go_ret
   exact ⟨by simp,below_drewN B5.out _⟩
end
end Go.Proofs.YtacpfpghokcdlaaGreatDoor
namespace Go.Proofs.YtacpfpghokcdlaaGreatDoor.V
set_option maxRecDepth 100000
section
open Go.RowKit Go.Maps
def eff:List Nat:=[0,0,8,0,16,0,32,0,32,8,48,16,64,32,96,64,128,128,256,258]
def TabM (w:World):Prop:=∀ j,j<20→w.cell? ⟨0,j,none⟩=some (.int .i64 (eff.getD j 0:Nat))
theorem TabM.keep {W W':World} (h:TabM W) (hb:Below W.heap.size W W'):TabM W':=fun j hj=>by
 have:=h j hj
 exact (hb.cell (World.block_lt_of_cell? W _ this)).trans this
theorem eff_le:∀ j,j<20→eff.getD j 0≤1000:=by decide
theorem eff_pos:∀ i,i<10→(eff.getD (i*2) 0=0↔i=0):=by decide
def findF (bs:List Nat) (level:Int):List M.Tok:=
 if eff.getD ((min (max level 0) 9).toNat*2) 0=0 then lits bs else tksF bs (eff.getD ((min (max level 0) 9).toNat*2) 0) (eff.getD ((min (max level 0) 9).toNat*2+1) 0) (bs.length+1) 0 false
theorem findF_clamp (bs:List Nat) (level:Int):findF bs (min (max level 0) 9)=findF bs level:=by
 unfold findF
 rw [show min (max (min (max level 0) 9) 0) 9=min (max level 0) 9 by omega]
def FindIs (bs:List Nat) (level:Int) (w:World) (e:Ending) (w':World):Prop:=
 ∃ ao c r,e = .returned (.slice ao r.length c)∧KS w' ao r∧Below w.heap.size w w'∧(r.length≤c∧(ao=none→c=0)∧(0<level→r=[]→ao=none))∧M.ex r []=some bs∧(∀ t∈r,t.lit<256)∧(level≤0→∀ t∈r,t.len=0)∧(0<level→(∃ t∈r,t.len≠0)∨M.NoFour bs)∧r=findF bs level
set_option maxHeartbeats 3200000 in
theorem find_some (ao:Option Addr) (c:Nat) (bs:List Nat) (level:Int) (w:World) (hT:TabM w) (h:BySl w (.slice ao bs.length c) bs) (hb:Bs bs) (hl:bs.length≤30000) :
  Calls Tryz.prog 56 #[.slice ao bs.length c,.int .i64 level] w (FindIs bs level w):=by
 obtain ⟨i,hi⟩:∃ i:Nat,i=(min (max level 0) 9).toNat:=⟨_,rfl⟩
 have hib:i≤9∧(i=0↔level≤0):=by omega
 have HIC:=Lib.hid (show (level<0∧i=0)∨level=(i:Int)∨(9<level∧i=9) by omega)
 obtain ⟨pl,hpl⟩:∃ pl,pl=eff.getD (i*2) 0:=⟨_,rfl⟩
 obtain ⟨wt,hwt⟩:∃ wt,wt=eff.getD (i*2+1) 0:=⟨_,rfl⟩
 have HFF:Hid (findF bs level=if pl=0 then lits bs else tksF bs pl wt (bs.length+1) 0 false):=Lib.hid (by unfold findF;rw [←hi,←hpl,←hwt])
 have t0:=hT (i*2) (by omega)
 have t1:=hT (i*2+1) (by omega)
 rw [←hpl] at t0
 rw [←hwt] at t1
 have HN:=Lib.hid (show pl≤1000∧wt≤1000 from ⟨by rw [hpl];exact eff_le _ (by omega),by rw [hwt];exact eff_le _ (by omega)⟩)
 have HP:=Lib.hid (show pl=0↔level≤0 by rw [hpl,eff_pos i (by omega)];exact hib.2)
 have HS:=Lib.hid (And.intro h (And.intro hb (And.intro hl (by_cap h))))
 have hib9:=hib.1
 obtain ⟨W1,hW1⟩:∃ W1,W1=w.alloc (.cells #[.int .i64 (pl:Nat),.int .i64 (wt:Nat)] 132):=⟨_,rfl⟩
 have hK1:Blk W1 w.heap.size 132 #[.int .i64 (pl:Nat),.int .i64 (wt:Nat)]:=by rw [hW1];exact Blk.made w 132 _
 have hB1:Below w.heap.size w W1:=by rw [hW1];exact (Below.refl _ _).alloc (Nat.le_refl _) _
 have HK1:=Lib.hid hK1
 have HB1:=Lib.hid hB1
 clear hi hpl hwt h hb hT hib hK1 hB1
 have hmm := @run_makeMap Tryz.prog
 go_enter Tryz.func56,Tryz.ntmps56
 go_upto_region 1 with fail
 go_cut [5] from 7 (fun s5 wx=>s5 = .pointer (some ⟨w.heap.size,0,none⟩)∧wx=W1)
 case first=>
  have q0:(min (max level 0) 9).toNat=i:=by have:=HIC.out;omega
  have t2:w.cell? ⟨0,(min (max level 0) 9).toNat*2,none⟩=some (.int .i64 (pl:Nat)):=by rw [q0];exact t0
  have t3:w.cell? ⟨0,(min (max level 0) 9).toNat*2+1,none⟩=some (.int .i64 (wt:Nat)):=by rw [q0];exact t1
  have q3:0≤min (max level 0) 9:=by omega
  have q4:min (max level 0) 9≤9:=by omega
  clear q0 t0 t1
  go_wp2
  go_meet
  case rel=>exact ⟨rfl,hW1.symm⟩
 case rest=>
 obtain ⟨rfl,hwx⟩:=hcut
 rw [hwx]
 have x0:=(HK1.out.cell 0).trans (show _=some (.int .i64 (pl:Nat)) from rfl)
 have x1:=(HK1.out.cell 1).trans (show _=some (.int .i64 (wt:Nat)) from rfl)
 clear hwx hW1 t0 t1 HIC
 by_cases hp0:pl=0
 ·subst hp0
  have HLV:=Lib.hid (HP.out.1 rfl)
  go_wp2_with fail
  refine (singles_any _ bs W1 (by_on HS.out.1 HB1.out) HS.out.2.1 HS.out.2.2.1).mono ?_
  rintro e w2 ⟨ao2,c2,rfl,hks,hbel,hcc⟩
  have HR:=Lib.hid (And.intro hks (And.intro (bel_on HB1.out hbel) hcc))
  clear hks hbel hcc
  go_wp2
  go_ret
  exact ⟨ao2,c2,lits bs,rfl,HR.out.1,HR.out.2.1,⟨HR.out.2.2.1,HR.out.2.2.2,fun h=>by have:=HLV.out;omega⟩,by have:=lits_ex bs [];simpa using this,fun t ht=>by obtain ⟨x,hx,rfl⟩:=List.mem_map.1 ht;exact HS.out.2.1 x hx,fun _ t ht=>by obtain ⟨x,hx,rfl⟩:=List.mem_map.1 ht;rfl,fun h=>by have:=HLV.out;omega,by rw [HFF.out];simp⟩
 ·have hp0':((pl:Int) == 0)=false:=by simp;omega
  have HLV:=Lib.hid (show 0<level by have:=HP.out;omega)
  have HPN:=Lib.hid hp0
  obtain ⟨L,hL⟩:∃ L,L=bs.length:=⟨_,rfl⟩
  have HL:=Lib.hid hL
  rw [←hL] at hl ⊢
  have hmn:min (L:Int) 32768=(L:Int):=by omega
  have hlt:(L:Int)<32768:=by omega
  obtain ⟨ix,hix,hz0,hz1,hz2⟩:=info_parts (show (Tryz.prog.info? 3).map (fun i=>(i.zero,i.size,i.bytes))=some (some (.int .i64 0),1,8) by kernel_rfl)
  have hmk:∀ W,(Instr.makeSlice 40 (.int .i64 (L:Int)) (.int .i64 (L:Int))).run Tryz.prog W = .ok (.slice (some ⟨W.heap.size,0,none⟩) L L) (W.alloc (.cells (va L fun _ => .int .i64 0) 3)):=fun W=>by
   have hr:=run_make (P:=Tryz.prog) W 40 3 ix (.int .i64 0) Tryz.underlying40 hix hz0 .i64 .i64 (L:Int) (L:Int) (by omega) (Int.le_refl _) (by rw [hz2];omega) (by omega)
   rw [Int.toNat_natCast,hz1,va_made,Nat.mul_one] at hr
   have he:(va L fun i=>(Value.int .i64 0).cells[i%(Value.int .i64 0).cells.size]!)=va L fun _=>Value.int .i64 0:=va_congr fun i _=>by
    have hc:(Value.int .i64 0).cells = #[.int .i64 0]:=rfl
    rw [hc]
    simp [Nat.mod_one]
   rw [he] at hr
   exact hr
  clear hp0 hL hix hz0 hz1 hz2
  have hA:∀ (W:World) (o:Obj) (j:Nat) (u:Value),W.cell? ⟨w.heap.size,j,none⟩=some u→(W.alloc o).cell? ⟨w.heap.size,j,none⟩=some u:=fun W o j u hu=>(((Below.refl W.heap.size W).alloc (Nat.le_refl _) o).cell (World.block_lt_of_cell? W _ hu)).trans hu
  have y0:=hA _ (.map #[] 0) 0 _ x0
  have y1:=hA _ (.map #[] 0) 1 _ x1
  have z0:=hA _ (.cells (va L fun _ => .int .i64 0) 3) 0 _ x0
  have z1:=hA _ (.cells (va L fun _ => .int .i64 0) 3) 1 _ x1
  have y2:=hA _ (.cells (va L fun _ => .int .i64 0) 3) 0 _ y0
  have y3:=hA _ (.cells (va L fun _ => .int .i64 0) 3) 1 _ y1
  have z2:=hA _ (.map #[] 0) 0 _ z0
  have z3:=hA _ (.map #[] 0) 1 _ z1
  clear hA
  go_wp2
  go_region
  ·have HFN:Hid (Fin (((W1.alloc (.map #[] 0)).alloc (.cells (va L fun _ => .int .i64 0) 3)).alloc (.cells #[.int .i64 (pl:Nat),.int .i64 (wt:Nat),.slice ao L c,.map (some W1.heap.size),.slice (some ⟨W1.heap.size+1,0,none⟩) L L,.bool false] 138)).drew w.heap.size (W1.heap.size+1+1) W1.heap.size (W1.heap.size+1) pl wt (.slice ao L c) bs false 0∧Below w.heap.size w (((W1.alloc (.map #[] 0)).alloc (.cells (va L fun _ => .int .i64 0) 3)).alloc (.cells #[.int .i64 (pl:Nat),.int .i64 (wt:Nat),.slice ao L c,.map (some W1.heap.size),.slice (some ⟨W1.heap.size+1,0,none⟩) L L,.bool false] 138)).drew):=Lib.hid (by
    have s1:=asize W1 (.map #[] 0)
    have s2:=asize (W1.alloc (.map #[] 0)) (.cells (va L fun _ => .int .i64 0) 3)
    have hsz:=HB1.out.size
    have b1:=HB1.out.alloc HB1.out.size (.map #[] 0)
    have b2:=b1.alloc b1.size (.cells (va L fun _ => .int .i64 0) 3)
    have b3:=b2.alloc b2.size (.cells #[.int .i64 (pl:Nat),.int .i64 (wt:Nat),.slice ao L c,.map (some W1.heap.size),.slice (some ⟨W1.heap.size+1,0,none⟩) L L,.bool false] 138)
    have b4:=below_drew b3
    refine ⟨⟨?_,by_on (by rw [HL.out];exact HS.out.1) b4,⟨_,((World.ownsMap_made W1 Tryz.prog 105 (plainElem (H:=Unit) Tryz.prog 3)).alloc _).alloc _,Mof.start bs⟩,⟨fun _=>0,?_,fun q hq=>by omega⟩,⟨by rw [HL.out];exact HS.out.2.2.2,by omega,by omega,by omega,by omega,by omega,by omega⟩,HN.out⟩,b4⟩
    ·rw [←HL.out]
     have:=Blk.made ((W1.alloc (.map #[] 0)).alloc (.cells (va L fun _ => .int .i64 0) 3)) 138 #[.int .i64 (pl:Nat),.int .i64 (wt:Nat),.slice ao L c,.map (some W1.heap.size),.slice (some ⟨W1.heap.size+1,0,none⟩) L L,.bool false]
     rw [s2,s1] at this
     exact this
    ·rw [←HL.out]
     have:=Blk.made (W1.alloc (.map #[] 0)) 3 (va L fun _ => .int .i64 0)
     rw [s1] at this
     exact (this.below ((Below.refl _ _).alloc (Nat.le_refl _) _)).drewN 1)
   have HSZ:Hid (W1.heap.size+1+1+1=(((W1.alloc (.map #[] 0)).alloc (.cells (va L fun _ => .int .i64 0) 3)).alloc (.cells #[.int .i64 (pl:Nat),.int .i64 (wt:Nat),.slice ao L c,.map (some W1.heap.size),.slice (some ⟨W1.heap.size+1,0,none⟩) L L,.bool false] 138)).drew.heap.size):=Lib.hid (by simp)
   generalize (((W1.alloc (.map #[] 0)).alloc (.cells (va L fun _ => .int .i64 0) 3)).alloc (.cells #[.int .i64 (pl:Nat),.int .i64 (wt:Nat),.slice ao L c,.map (some W1.heap.size),.slice (some ⟨W1.heap.size+1,0,none⟩) L L,.bool false] 138)).drew=W3 at HFN HSZ ⊢
   clear x0 x1 y0 y1 y2 y3 z0 z1 z2 z3 hmk hmm
   go_wp2_with fail
   refine (tokens_any (W1.heap.size+1+1) W1.heap.size (W1.heap.size+1) pl wt _ bs w.heap.size W3 HFN.out.1 HS.out.2.1 HS.out.2.2.1 HFN.out.2.size (by rw [←HSZ.out];omega)).mono ?_
   rintro e w5 ⟨ao2,c2,r,rfl,h1,h2,h3,h4,h5,h6,h7⟩
   have HRF:=Lib.hid (show r=findF bs level by rw [HFF.out,if_neg HPN.out,h7])
   clear h7
   have HR:=Lib.hid (And.intro h1 (And.intro (HFN.out.2.trans h2) (And.intro h3 (And.intro h4 (And.intro h5 h6)))))
   clear h1 h2 h3 h4 h5 h6
   go_wp2
   go_ret
   exact ⟨ao2,c2,r,rfl,HR.out.1,HR.out.2.1,⟨HR.out.2.2.1.1,HR.out.2.2.1.2.1,fun _=>HR.out.2.2.1.2.2⟩,HR.out.2.2.2.1,HR.out.2.2.2.2.1,fun h=>by have:=HLV.out;omega,fun _=>HR.out.2.2.2.2.2,HRF.out⟩
  ·have HFN:Hid (Fin (((W1.alloc (.cells (va L fun _ => .int .i64 0) 3)).alloc (.map #[] 0)).alloc (.cells #[.int .i64 (pl:Nat),.int .i64 (wt:Nat),.slice ao L c,.map (some (W1.heap.size+1)),.slice (some ⟨W1.heap.size,0,none⟩) L L,.bool false] 138)).drew w.heap.size (W1.heap.size+1+1) (W1.heap.size+1) W1.heap.size pl wt (.slice ao L c) bs false 0∧Below w.heap.size w (((W1.alloc (.cells (va L fun _ => .int .i64 0) 3)).alloc (.map #[] 0)).alloc (.cells #[.int .i64 (pl:Nat),.int .i64 (wt:Nat),.slice ao L c,.map (some (W1.heap.size+1)),.slice (some ⟨W1.heap.size,0,none⟩) L L,.bool false] 138)).drew):=Lib.hid (by
    have s1:=asize W1 (.cells (va L fun _ => .int .i64 0) 3)
    have s2:=asize (W1.alloc (.cells (va L fun _ => .int .i64 0) 3)) (.map #[] 0)
    have hsz:=HB1.out.size
    have b1:=HB1.out.alloc HB1.out.size (.cells (va L fun _ => .int .i64 0) 3)
    have b2:=b1.alloc b1.size (.map #[] 0)
    have b3:=b2.alloc b2.size (.cells #[.int .i64 (pl:Nat),.int .i64 (wt:Nat),.slice ao L c,.map (some (W1.heap.size+1)),.slice (some ⟨W1.heap.size,0,none⟩) L L,.bool false] 138)
    have b4:=below_drew b3
    have hom:=World.ownsMap_made (W1.alloc (.cells (va L fun _ => .int .i64 0) 3)) Tryz.prog 105 (plainElem (H:=Unit) Tryz.prog 3)
    rw [s1] at hom
    refine ⟨⟨?_,by_on (by rw [HL.out];exact HS.out.1) b4,⟨_,hom.alloc _,Mof.start bs⟩,⟨fun _=>0,?_,fun q hq=>by omega⟩,⟨by rw [HL.out];exact HS.out.2.2.2,by omega,by omega,by omega,by omega,by omega,by omega⟩,HN.out⟩,b4⟩
    ·rw [←HL.out]
     have:=Blk.made ((W1.alloc (.cells (va L fun _ => .int .i64 0) 3)).alloc (.map #[] 0)) 138 #[.int .i64 (pl:Nat),.int .i64 (wt:Nat),.slice ao L c,.map (some (W1.heap.size+1)),.slice (some ⟨W1.heap.size,0,none⟩) L L,.bool false]
     rw [s2,s1] at this
     exact this
    ·rw [←HL.out]
     have:=Blk.made W1 3 (va L fun _ => .int .i64 0)
     exact ((this.below ((Below.refl _ _).alloc (Nat.le_refl _) _)).below ((Below.refl _ _).alloc (Nat.le_refl _) _)).drewN 1)
   have HSZ:Hid (W1.heap.size+1+1+1=(((W1.alloc (.cells (va L fun _ => .int .i64 0) 3)).alloc (.map #[] 0)).alloc (.cells #[.int .i64 (pl:Nat),.int .i64 (wt:Nat),.slice ao L c,.map (some (W1.heap.size+1)),.slice (some ⟨W1.heap.size,0,none⟩) L L,.bool false] 138)).drew.heap.size):=Lib.hid (by simp)
   generalize (((W1.alloc (.cells (va L fun _ => .int .i64 0) 3)).alloc (.map #[] 0)).alloc (.cells #[.int .i64 (pl:Nat),.int .i64 (wt:Nat),.slice ao L c,.map (some (W1.heap.size+1)),.slice (some ⟨W1.heap.size,0,none⟩) L L,.bool false] 138)).drew=W3 at HFN HSZ ⊢
   clear x0 x1 y0 y1 y2 y3 z0 z1 z2 z3 hmk hmm
   go_wp2_with fail
   refine (tokens_any (W1.heap.size+1+1) (W1.heap.size+1) W1.heap.size pl wt _ bs w.heap.size W3 HFN.out.1 HS.out.2.1 HS.out.2.2.1 HFN.out.2.size (by rw [←HSZ.out];omega)).mono ?_
   rintro e w5 ⟨ao2,c2,r,rfl,h1,h2,h3,h4,h5,h6,h7⟩
   have HRF:=Lib.hid (show r=findF bs level by rw [HFF.out,if_neg HPN.out,h7])
   clear h7
   have HR:=Lib.hid (And.intro h1 (And.intro (HFN.out.2.trans h2) (And.intro h3 (And.intro h4 (And.intro h5 h6)))))
   clear h1 h2 h3 h4 h5 h6
   go_wp2
   go_ret
   exact ⟨ao2,c2,r,rfl,HR.out.1,HR.out.2.1,⟨HR.out.2.2.1.1,HR.out.2.2.1.2.1,fun _=>HR.out.2.2.1.2.2⟩,HR.out.2.2.2.1,HR.out.2.2.2.2.1,fun h=>by have:=HLV.out;omega,fun _=>HR.out.2.2.2.2.2,HRF.out⟩
theorem find_any (w:World) (v:Value) (bs:List Nat) (level:Int) (hT:TabM w) (h:BySl w v bs) (hb:Bs bs) (hl:bs.length≤30000) :
  Calls Tryz.prog 56 #[v,.int .i64 level] w (FindIs bs level w):=by
 obtain ⟨ao,c,rfl⟩:=by_shape h
 exact find_some ao c bs level w hT h hb hl
end
end Go.Proofs.YtacpfpghokcdlaaGreatDoor.V
namespace Go.Proofs.YtacpfpghokcdlaaGreatDoor
set_option maxRecDepth 100000
theorem byts_len (P:List (Nat × Nat)):(byts P).length=(wid P+7)/8:=by simp [byts]
theorem packs_fin {bs:List Nat} {s:Pst} {k:Nat} (h:Fin_ bs s k) (hl:(byts s.P).length≤2*bs.length+1000) {j:Nat} (hj:j≤k):Packs bs (byts s.P) j:=by
 obtain ⟨st,hi⟩:=h.infl _ (byts_holds h.fit)
 exact ⟨(byts_holds h.fit).1,hl,wid s.P,st,k,hi,(byts_len _).symm,hj⟩
theorem packs_sto {bs:List Nat} (hb:Bs bs) (hl:bs.length≤5000):Packs bs (stoF bs) 1:=by
 have hs:stoS 0 bs true=stoP 0 bs true:=stoS_small 0 true (by omega)
 have hf:=stoS_fit 0 true hb
 have e:=stoF_byts hb
 rw [hs] at e hf
 have hh:=byts_holds hf
 rw [←e]
 have hB:=blk_stored (lim:=bs.length) (pos:=0) (o:=[]) true hb (by omega) (by simp)
 obtain ⟨st,hi⟩:=(NL.nil bs.length).done hB (show Holds8 (byts (stoP 0 bs true)) ([]++stoP 0 bs true) from hh)
 refine ⟨hh.1,?_,_,st,_,hi,(byts_len _).symm,by omega⟩
 rw [e,stoF_len]
 unfold bnd
 omega
def dflF (bs:List Nat) (k:Nat):List Nat:=
 if k=0 then stoF bs
 else if (byts (pkS bs [bs.length] ⟨V.findF bs (k:Int),0,[]⟩).P).length≤bnd bs.length then byts (pkS bs [bs.length] ⟨V.findF bs (k:Int),0,[]⟩).P else stoF bs
theorem dfl_back {bs:List Nat} {k:Nat} (hb:Bs bs) (hl:bs.length≤5000) (hA:AP bs [bs.length] (V.findF bs (k:Int))):Packs bs (dflF bs k) 1∧(dflF bs k).length≤bnd bs.length:=by
 have hs:=packs_sto hb hl
 have hsl:=stoF_len bs
 have hE:Ends bs.length [bs.length]:=⟨List.pairwise_singleton _ _,rfl,fun e he=>by rw [List.mem_singleton] at he;omega⟩
 obtain ⟨j,hj,hF⟩:=packed_ok hb (by omega) hE hA
 unfold dflF
 split
 ·exact ⟨hs,by omega⟩
 ·split
  ·rename_i h
   exact ⟨packs_fin hF (by unfold bnd at h;omega) (by simpa using hj),h⟩
  ·exact ⟨hs,by omega⟩
theorem ap_one {bs:List Nat} {r:List Tok} (hx:V.M.ex r []=some bs) (hl:∀ t∈r,t.lit<256):AP bs [bs.length] r:=by
 refine ⟨hx,ex_ok hx hl,fun e he=>?_⟩
 rw [List.mem_singleton] at he
 have h1:=V.M.ex_len hx
 exact ⟨r.length,Nat.le_refl _,by rw [List.take_length,he,h1];simp⟩
theorem KS_drop {w:World} {b off:Nat} {r:List Tok} (h:V.KS w (some ⟨b,off,none⟩) r) (k:Nat) (hk:k≤r.length):V.KS w (some ⟨b,off+k*3,none⟩) (r.drop k):=by
 rcases h with rfl | ⟨b',off',e,hc⟩
 ·exact .inl (by simp)
 ·cases e
  refine .inr ⟨b,off+k*3,rfl,fun j v hv=>?_⟩
  have hsplit:V.tcl r=V.tcl (r.take k)++V.tcl (r.drop k):=by rw [V.tcl_app,List.take_append_drop]
  have hlen:(V.tcl (r.take k)).length=k*3:=by rw [V.tcl_len,List.length_take,Nat.min_eq_left hk]
  have:=hc (k*3+j) v (by rw [hsplit,List.getElem?_append_right (by omega),hlen,Nat.add_sub_cancel_left];exact hv)
  rwa [←Nat.add_assoc] at this
theorem dfl_zero (bs:List Nat):dflF bs 0=stoF bs:=if_pos rfl
section
open V (tokF tksF findF la worth gvF)
theorem srch_best {b:List Nat} {at_ most:Nat} (ha:at_≤32768) (hl:at_≤b.length):∀ (left:Nat) (pl:Int) (L D:Nat),-1≤pl→pl<at_→L≤most→((L=0∧D=0)∨V.M.Cop b at_ L D)→
  (V.M.srch b at_ most left pl L D).1≤most∧(((V.M.srch b at_ most left pl L D).1=0∧(V.M.srch b at_ most left pl L D).2=0)∨V.M.Cop b at_ (V.M.srch b at_ most left pl L D).1 (V.M.srch b at_ most left pl L D).2):=by
 intro left
 induction left with
 | zero=>intro pl L D _ _ h3 h4;exact ⟨h3,h4⟩
 | succ n ih=>
  intro pl L D h1 h2 h3 h4
  rw [V.M.srch]
  split
  ·rename_i hc
   obtain ⟨p,rfl⟩:∃ p:Nat,pl=(p:Int):=⟨pl.toNat,by omega⟩
   rw [Int.toNat_natCast]
   have hb:=V.M.pv_bd b (V.M.key3 b p) p
   split
   ·exact ih _ _ _ hb.1 (by omega) (V.M.same_le b _ most at_) (.inr (V.M.cop_same (by omega) ha hl))
   ·exact ih _ _ _ hb.1 (by omega) h3 h4
  ·exact ⟨h3,h4⟩
def Tk1 (bs:List Nat) (a:Nat) (t:Tok):Prop:=t=⟨bs.getD a 0,0,0⟩∨(t.lit=0∧3≤t.len∧t.len≤258∧V.M.Cop bs a t.len t.dist)
theorem tokF_is1 {bs:List Nat} {a pl:Nat} {cop:Bool} (ha:a≤32768) (hl:a≤bs.length):Tk1 bs a (tokF bs a cop pl):=by
 have hla : -1≤la bs a∧la bs a<a:=by
  unfold la
  split
  ·exact V.M.pv_bd _ _ _
  ·omega
 have h:=srch_best (most:=min 258 (bs.length-a)) ha hl (if cop then pl else 32768) (la bs a) 0 0 hla.1 hla.2 (Nat.zero_le _) (.inl ⟨rfl,rfl⟩)
 unfold tokF
 generalize (if cop then pl else 32768)=lf at h ⊢
 split
 ·rename_i hw
  right
  have h3:3≤(V.M.srch bs a (min 258 (bs.length-a)) lf (la bs a) 0 0).1:=by
   unfold worth at hw
   simp at hw
   omega
  refine ⟨rfl,h3,by have:=h.1;simp only;omega,?_⟩
  rcases h.2 with h0 | h0
  ·omega
  ·exact h0
 ·exact .inl rfl
theorem Tk1.one {bs:List Nat} {a:Nat} {t:Tok} (hb:Bs bs) (h:Tk1 bs a t) (ha:a<bs.length):TkOk t∧t.dist≤a∧V.M.one t (bs.take a)=bs.take (a+V.M.tells t)∧a+V.M.tells t≤bs.length:=by
 rcases h with rfl | ⟨h1,h2,h3,h4⟩
 ·refine ⟨⟨.inl ⟨rfl,rfl⟩,?_⟩,Nat.zero_le _,V.M.one_lit bs a ha,by unfold V.M.tells;show a+max 0 1≤_;omega⟩
  show bs.getD a 0<256
  rw [List.getD_eq_getElem?_getD,List.getElem?_eq_getElem ha]
  exact hb _ (List.getElem_mem ha)
 ·obtain ⟨l,n,d⟩:=t
  simp only at h1 h2 h3 h4
  subst h1
  obtain ⟨c1,c2,c3,c4,c5⟩:=h4
  have ht:V.M.tells ⟨0,n,d⟩=n:=by unfold V.M.tells;show max n 1=n;omega
  rw [ht]
  exact ⟨⟨.inr ⟨h2,h3,c1,c3,rfl⟩,Nat.zero_lt_succ _⟩,c2,V.M.one_copy bs a d n (by omega) c4 c1 c2 c5,c4⟩
theorem tksF_ex {bs:List Nat} {pl wt:Nat} (hb:Bs bs) (hl:bs.length≤30000):∀ (fu a:Nat) (cop:Bool),bs.length<a+fu→a≤bs.length→V.M.ex (tksF bs pl wt fu a cop) (bs.take a)=some bs∧∀ t∈tksF bs pl wt fu a cop,TkOk t:=by
 intro fu
 induction fu with
 | zero=>intro a cop h1 h2;omega
 | succ fu ih=>
  intro a cop h1 h2
  rcases Nat.lt_or_ge a bs.length with ha | ha
  ·obtain ⟨t,ht⟩:∃ t:Tok,t=if gvF bs a cop pl wt (tokF bs a cop pl).len then ⟨bs.getD a 0,0,0⟩ else tokF bs a cop pl:=⟨_,rfl⟩
   have h1t:Tk1 bs a t:=by
    rw [ht]
    split
    ·exact .inl rfl
    ·exact tokF_is1 (by omega) h2
   obtain ⟨k1,k2,k3,k4⟩:=h1t.one hb ha
   have hp:=V.M.tells_pos t
   rw [V.tksF_step ha ht]
   obtain ⟨i1,i2⟩:=ih (a+V.M.tells t) (cop || decide (0<t.len)) (by omega) k4
   refine ⟨?_,fun x hx=>?_⟩
   ·rw [V.M.ex,if_pos ⟨k1.1,by rw [List.length_take];omega⟩,k3]
    exact i1
   ·rcases List.mem_cons.1 hx with rfl | hx
    ·exact k1
    ·exact i2 x hx
  ·rw [V.tksF_end ha]
   have:a=bs.length:=by omega
   subst this
   exact ⟨by rw [List.take_length];rfl,fun t ht=>by cases ht⟩
theorem findF_ex {bs:List Nat} (level:Int) (hb:Bs bs) (hl:bs.length≤30000):V.M.ex (findF bs level) []=some bs∧∀ t∈findF bs level,TkOk t:=by
 unfold findF
 split
 ·refine ⟨by have:=V.lits_ex bs [];simpa using this,fun t ht=>?_⟩
  unfold V.lits at ht
  obtain ⟨c,hc,rfl⟩:=List.mem_map.1 ht
  exact ⟨.inl ⟨rfl,rfl⟩,hb c hc⟩
 ·exact tksF_ex hb hl _ 0 false (by omega) (Nat.zero_le _)
theorem findF_ap {bs:List Nat} (level:Int) (hb:Bs bs) (hl:bs.length≤30000):AP bs [bs.length] (findF bs level):=ap_one (findF_ex level hb hl).1 fun t ht=>((findF_ex level hb hl).2 t ht).2
section
variable {c n:Nat}
theorem rep_at {i:Nat} (h:i<n):(List.replicate n c).getD i 0=c:=by
 rw [List.getD_eq_getElem?_getD,List.getElem?_replicate_of_lt h];rfl
theorem rep_key {i:Nat} (h:i+3≤n):V.M.key3 (List.replicate n c) i=c+256*c+65536*c:=by
 unfold V.M.key3
 rw [rep_at (by omega),rep_at (by omega),rep_at (by omega)]
theorem rep_same (most:Nat):∀ a,1≤a→a+most≤n→V.M.same (List.replicate n c) a 1 most=most:=by
 induction most with
 | zero=>intro a _ _;rfl
 | succ m ih=>
  intro a h1 h2
  rw [V.M.same,if_pos ⟨by rw [List.length_replicate];omega,Nat.le_refl _,h1,by rw [rep_at (by omega),rep_at (by omega)]⟩,ih (a+1) (by omega) (by omega)]
  omega
theorem rep_la {a:Nat} (h1:1≤a) (h2:a+3≤n):la (List.replicate n c) a=((a-1:Nat):Int):=by
 unfold la
 rw [if_pos (by rw [List.length_replicate];exact h2)]
 have hb:=V.M.pv_bd (List.replicate n c) (V.M.key3 (List.replicate n c) a) a
 have hg:=V.M.pv_ge (b:=List.replicate n c) (k:=V.M.key3 (List.replicate n c) a) (q:=a-1) (n:=a) (by omega) (by rw [rep_key h2,rep_key (by omega)])
 omega
theorem rep_tok {a pl:Nat} {cop:Bool} (hp:1≤pl) (h1:1≤a) (h2:a+4≤n):tokF (List.replicate n c) a cop pl=⟨0,min 258 (n-a),1⟩:=by
 obtain ⟨lf,hlf⟩:∃ lf,(if cop then pl else 32768)=lf+1:=⟨(if cop then pl else 32768)-1,by split <;> omega⟩
 have hs:V.M.srch (List.replicate n c) a (min 258 ((List.replicate n c).length-a)) (if cop then pl else 32768) (la (List.replicate n c) a) 0 0=(min 258 (n-a),1):=by
  rw [List.length_replicate,hlf,rep_la h1 (by omega)]
  have hsm:=rep_same (c:=c) (n:=n) (min 258 (n-a)) a h1 (by omega)
  have e1:a-(a-1)=1:=by omega
  rw [V.M.srch_yes (p:=a-1) (by omega) (by rw [rep_at (by omega),rep_at (by omega)]) (by rw [e1,hsm];omega),e1,hsm]
  exact V.M.srch_stop (.inr (.inl (Nat.le_refl _)))
 unfold tokF
 rw [hs]
 simp only
 rw [if_pos (by unfold worth;simp;omega)]
theorem rpn_len {a pl:Nat} {cop:Bool} (ha:a≤32768) (hl:a≤n):(tokF (List.replicate n c) a cop pl).len≤n-a:=by
 rcases tokF_is1 (bs:=List.replicate n c) (a:=a) (cop:=cop) (pl:=pl) ha (by rw [List.length_replicate];exact hl) with h | ⟨_,_,_,h⟩
 ·rw [h];exact Nat.zero_le _
 ·have:=h.2.2.2.1
  rw [List.length_replicate] at this
  omega
theorem rep_few {pl wt:Nat} (hc:c<256) (hp:1≤pl) (hn:n≤30000):∀ (fu a:Nat) (cop:Bool),1≤a→a≤n→(tksF (List.replicate n c) pl wt fu a cop).length≤(n-a)/258+4∧(n≤a+3→(tksF (List.replicate n c) pl wt fu a cop).length≤n-a):=by
 have hbs:Bs (List.replicate n c):=fun x hx=>by rw [List.eq_of_mem_replicate hx];exact hc
 intro fu
 induction fu with
 | zero=>intro a cop _ _;exact ⟨by simp [tksF],fun _=>by simp [tksF]⟩
 | succ fu ih=>
  intro a cop h1 h2
  rcases Nat.lt_or_ge a n with ha | ha
  ·have ha':a<(List.replicate n c).length:=by rw [List.length_replicate];exact ha
   obtain ⟨t,ht⟩:∃ t:Tok,t=if gvF (List.replicate n c) a cop pl wt (tokF (List.replicate n c) a cop pl).len then ⟨(List.replicate n c).getD a 0,0,0⟩ else tokF (List.replicate n c) a cop pl:=⟨_,rfl⟩
   have h1t:Tk1 (List.replicate n c) a t:=by
    rw [ht]
    split
    ·exact .inl rfl
    ·exact tokF_is1 (by omega) (by omega)
   obtain ⟨_,_,_,k4⟩:=h1t.one hbs ha'
   rw [List.length_replicate] at k4
   have hpos:=V.M.tells_pos t
   rw [V.tksF_step ha' ht,List.length_cons]
   obtain ⟨i1,i2⟩:=ih (a+V.M.tells t) (cop || decide (0<t.len)) (by omega) k4
   by_cases h4:a+4≤n
   ·have htk:=rep_tok (c:=c) (cop:=cop) hp h1 h4
    have hg:gvF (List.replicate n c) a cop pl wt (tokF (List.replicate n c) a cop pl).len=false:=by
     rw [htk]
     have h5:=rpn_len (c:=c) (n:=n) (a:=a+1) (pl:=pl) (cop:=cop) (by omega) (by omega)
     have h6:(tokF (List.replicate n c) (a+1) cop pl).len≤258:=by
      rcases tokF_is1 (bs:=List.replicate n c) (a:=a+1) (cop:=cop) (pl:=pl) (by omega) (by rw [List.length_replicate];omega) with h | ⟨_,_,h,_⟩
      ·rw [h];exact Nat.zero_le _
      ·exact h
     unfold gvF
     simp only
     rw [decide_eq_false (show ¬min 258 (n-a)<(tokF (List.replicate n c) (a+1) cop pl).len by omega),Bool.and_false]
    rw [hg,if_neg (by decide),htk] at ht
    have htl:V.M.tells t=min 258 (n-a):=by rw [ht];unfold V.M.tells;show max (min 258 (n-a)) 1=_;omega
    rw [htl] at i1 i2 ⊢
    refine ⟨?_,fun h=>by omega⟩
    rcases Nat.lt_or_ge (n-a) 258 with h7 | h7
    ·have:=i2 (by omega)
     omega
    ·have e:(n-a)/258=(n-(a+min 258 (n-a)))/258+1:=by
      rw [show min 258 (n-a)=258 by omega,show n-a=n-(a+258)+258 by omega,Nat.add_div_right _ (by decide)]
     omega
   ·have:=i2 (by omega)
    exact ⟨by omega,fun _=>by omega⟩
  ·rw [V.tksF_end (by rw [List.length_replicate];exact ha)]
   exact ⟨Nat.zero_le _,fun _=>Nat.zero_le _⟩
theorem rep_find {k:Nat} (hc:c<256) (h1:1≤k) (h9:k≤9) (hn0:1≤n) (hn:n≤30000):(findF (List.replicate n c) (k:Int)).length≤n/258+5:=by
 have hbs:Bs (List.replicate n c):=fun x hx=>by rw [List.eq_of_mem_replicate hx];exact hc
 have hk:(min (max (k:Int) 0) 9).toNat=k:=by omega
 have hp:=V.eff_pos k (by omega)
 unfold findF
 rw [hk,if_neg (by omega)]
 obtain ⟨pl,hpl⟩:∃ pl,pl=V.eff.getD (k*2) 0:=⟨_,rfl⟩
 obtain ⟨wt,hwt⟩:∃ wt,wt=V.eff.getD (k*2+1) 0:=⟨_,rfl⟩
 rw [←hpl] at hp ⊢
 rw [←hwt,List.length_replicate]
 have ha':0<(List.replicate n c).length:=by rw [List.length_replicate];exact hn0
 obtain ⟨t,ht⟩:∃ t:Tok,t=if gvF (List.replicate n c) 0 false pl wt (tokF (List.replicate n c) 0 false pl).len then ⟨(List.replicate n c).getD 0 0,0,0⟩ else tokF (List.replicate n c) 0 false pl:=⟨_,rfl⟩
 have h1t:Tk1 (List.replicate n c) 0 t:=by
  rw [ht]
  split
  ·exact .inl rfl
  ·exact tokF_is1 (by omega) (by omega)
 obtain ⟨_,_,_,k4⟩:=h1t.one hbs ha'
 rw [List.length_replicate] at k4
 have hpos:=V.M.tells_pos t
 rw [V.tksF_step ha' ht,List.length_cons]
 have:=(rep_few (c:=c) (n:=n) (pl:=pl) (wt:=wt) hc (by omega) hn n (0+V.M.tells t) (false || decide (0<t.len)) (by omega) k4).1
 have e:(n-(0+V.M.tells t))/258≤n/258:=Nat.div_le_div_right (by omega)
 omega
end
theorem fix_tok {t:Tok} (h:TkOk t):wid (tokP fixF fixO t)≤32:=by
 rw [tokP_wid]
 have a1:∀ y,y<288→ln fixF y≤9:=by decide +kernel
 have a2:∀ y,y<30→ln fixO y≤5:=by decide +kernel
 have a3:∀ i,i<29→LXs.getD i 0≤5:=by decide
 have a4:∀ i,i<30→DXs.getD i 0≤13:=by decide
 have b1:=a1 _ (show fsy t<288 by have:=h.fsy.1;omega)
 by_cases h0:t.len=0
 ·simp only [h0,ne_eq,not_true,if_false]
  omega
 ·have b2:=a2 _ (h.dsy h0)
  have h1:=h.len h0
  have b3:=a3 _ (lix h1.1 h1.2.1).2.1
  have b4:=a4 _ (dix h1.2.2.1 h1.2.2.2).2.1
  simp only [ne_eq,h0,not_false_eq_true,if_true]
  unfold lxt dxt
  omega
theorem fix_toks {r:List Tok} (h:∀ t∈r,TkOk t):wid (toksP fixF fixO r)≤32*r.length:=by
 induction r with
 | nil=>exact Nat.le_refl _
 | cons t r ih=>
  have e:toksP fixF fixO (t::r)=tokP fixF fixO t++toksP fixF fixO r:=rfl
  rw [e,wid_app,List.length_cons]
  have:=ih fun x hx=>h x (List.mem_cons_of_mem _ hx)
  have:=fix_tok (h t (List.mem_cons_self ..))
  omega
theorem blk_few {pos:Nat} {r:List Tok} {b:List Nat} (last:Bool) (h:∀ t∈r,TkOk t) (hl:b.length≤65535):wid (blkF pos r b last)≤32*r.length+12:=by
 have h1:=blkF_wid (pos:=pos) last h hl
 have h2:=wid_fix last h pos
 have h3:=fix_toks h
 have h4:ln fixF 256≤9:=by decide +kernel
 unfold fixP at h2
 simp only [wid,wid_app,cp] at h2
 omega
theorem up_all (most:Nat):∀ (r:List Tok) (k told:Nat),r.length≤k→told+V.M.sum r≤most→upN most r k told=r.length:=by
 intro r
 induction r with
 | nil=>intro k told _ _;rfl
 | cons t r ih=>
  intro k told hk hs
  rw [V.M.sum_cons] at hs
  rw [List.length_cons] at hk
  have:=V.M.tells_pos t
  rw [upN,if_pos ⟨by omega,by omega⟩,ih _ _ (by omega) (by omega),List.length_cons]
theorem one_blk {bs:List Nat} {r:List Tok} (hx:V.M.ex r []=some bs) (hl:r.length≤16384):(pkS bs [bs.length] ⟨r,0,[]⟩).P=blkF 0 r bs true:=by
 have hs:=V.M.ex_len hx
 simp only [List.length_nil,Nat.zero_add] at hs
 have e1:pk1 bs bs.length ⟨r,0,[]⟩=⟨[],bs.length,blkF 0 r bs true⟩:=by
  have hu:=up_all bs.length r 16384 0 hl (by omega)
  unfold pk1
  simp [hu,←hs,wid]
 rw [pkS,pkB,e1]
 simp only [Nat.lt_irrefl,if_false]
 rfl
theorem dfl_few {c n k:Nat} (hc:c<256) (h1:1000≤n) (h2:n≤5000) (h3:1≤k) (h4:k≤9):(dflF (List.replicate n c) k).length≤n/10:=by
 have hbs:Bs (List.replicate n c):=fun x hx=>by rw [List.eq_of_mem_replicate hx];exact hc
 have hf:=rep_find (c:=c) (n:=n) hc h3 h4 (by omega) (by omega)
 obtain ⟨hx,hok⟩:=findF_ex (bs:=List.replicate n c) (k:Int) hbs (by rw [List.length_replicate];omega)
 obtain ⟨r,hr⟩:∃ r,r=findF (List.replicate n c) (k:Int):=⟨_,rfl⟩
 unfold dflF
 rw [←hr] at hf hx hok ⊢
 rw [if_neg (by omega),one_blk hx (by omega),byts_len]
 have hw:=blk_few (pos:=0) (b:=List.replicate n c) true hok (by rw [List.length_replicate];omega)
 rw [List.length_replicate]
 split
 ·rw [byts_len];omega
 ·rename_i h
  exfalso
  unfold bnd at h
  omega
end
section
open Go.RowKit
theorem bytes_for (n:Nat) (hn:n≤1099511627776) (w:World):Calls Tryz.prog 129 #[.int .i64 n] w fun e w'=>e = .returned (.int .i64 ((n+7)/8:Nat))∧w'=w:=by
 have e1:IntKind.i64.wrap ((n:Int)+7)=(n:Int)+7:=by rw [IntKind.wrap_i64];omega
 obtain ⟨k,hk⟩:∃ k,k=(n+7)/8:=⟨_,rfl⟩
 have e2:((n:Int)+7)/8=(k:Int):=by omega
 rw [←hk]
 have E2:=Lib.hid e2
 clear hk e2
 go_enter Tryz.func129,Tryz.ntmps129
 go_wp2
 go_ret
 exact ⟨congrArg (fun x=>Ending.returned (Value.int .i64 x)) E2.out,rfl⟩
theorem behind_head {w:World} {base pw pk:Nat} {g:Option Nat} {P:List (Nat × Nat)} (h:Wq w base pw g P) (ho:PkO w pk pw) (hn:wid P≤1000000000) :
  Calls Tryz.prog 87 #[.pointer (some ⟨pk,0,none⟩)] w fun e w'=>e = .returned (.int .i64 (wid P+3:Nat))∧w'=w:=by
 have c0:=ho.cell
 have HL:=Lib.hid (Wr.len h)
 obtain ⟨n,hw⟩:∃ n,n=wid P:=⟨_,rfl⟩
 rw [←hw] at hn HL ⊢
 obtain ⟨m,hm⟩:∃ m,m=n+3:=⟨_,rfl⟩
 have e1:IntKind.i64.wrap ((n:Int)+3)=(m:Int):=by rw [IntKind.wrap_i64];omega
 rw [←hm]
 clear h ho hw hm
 go_enter Tryz.func87,Tryz.ntmps87
 go_wp2_with (go_at_call 130;(refine HL.out.mono ?_);rintro e w' ⟨rfl,rfl⟩)
 go_ret
 exact ⟨rfl,rfl⟩
theorem behind_stored {w:World} {base pw pk:Nat} {g:Option Nat} {P:List (Nat × Nat)} (h:Wq w base pw g P) (ho:PkO w pk pw) (hn:wid P≤1000000000) (m:Nat) (hm:m≤1000000) :
  Calls Tryz.prog 86 #[.pointer (some ⟨pk,0,none⟩),.int .i64 m] w fun e w'=>e = .returned (.int .i64 (asSto (wid P) m:Nat))∧Below w.heap.size w w':=by
 have HH:=Lib.hid (behind_head h ho hn)
 have hb:bnd m≤2000000:=by unfold bnd;omega
 obtain ⟨k,hk⟩:∃ k,k=(wid P+3+7)/8:=⟨_,rfl⟩
 obtain ⟨B,hB⟩:∃ B,B=bnd m:=⟨_,rfl⟩
 obtain ⟨r,hr⟩:∃ r,r=asSto (wid P) m:=⟨_,rfl⟩
 have hr':=hr
 unfold asSto at hr'
 obtain ⟨n,hw⟩:∃ n,n=wid P+3:=⟨_,rfl⟩
 have HF:=Lib.hid (fun W=>bytes_for n (by omega) W)
 have HBD:=Lib.hid (fun W=>bound_ok W m (by omega))
 rw [←hw] at HH hk hr'
 rw [←hk] at HF hr'
 rw [←hB] at HBD hr' hb
 rw [←hr]
 have e1:IntKind.i64.wrap ((k:Int)-1)=(k:Int)-1:=by rw [IntKind.wrap_i64];omega
 have e2:IntKind.i64.wrap ((k:Int)-1+B)=(k:Int)-1+B:=by rw [IntKind.wrap_i64];omega
 have e3:IntKind.i64.wrap (((k:Int)-1+B)*8)=(r:Int):=by rw [IntKind.wrap_i64];omega
 clear h ho hw hr' hr hB hk hn hm hb
 go_enter Tryz.func86,Tryz.ntmps86
 go_wp2_with fail
 refine HH.out.mono ?_
 rintro e w' ⟨rfl,rfl⟩
 go_wp2_with fail
 refine (HF.out w').mono ?_
 rintro e w2 ⟨rfl,rfl⟩
 go_wp2_with fail
 refine (HBD.out w2).mono ?_
 rintro e w3 ⟨rfl,hb⟩
 have HB:=Lib.hid hb
 clear hb
 go_wp2
 go_ret
 exact ⟨rfl,HB.out⟩
theorem bits_behind (y:Nat) (w:World):Calls Tryz.prog 134 #[.int .i64 y] w fun e w'=>e = .returned (.int .i64 (xb y:Nat))∧w'=w:=by
 by_cases c1:y=16
 ·subst c1
  go_enter Tryz.func134,Tryz.ntmps134
  go_wp2
  go_ret
  exact ⟨rfl,rfl⟩
 ·by_cases c2:y=17
  ·subst c2
   go_enter Tryz.func134,Tryz.ntmps134
   go_wp2
   go_ret
   exact ⟨rfl,rfl⟩
  ·by_cases c3:y=18
   ·subst c3
    go_enter Tryz.func134,Tryz.ntmps134
    go_wp2
    go_ret
    exact ⟨rfl,rfl⟩
   ·have e:xb y=0:=by unfold xb;rw [if_neg c1,if_neg c2,if_neg c3]
    rw [e]
    have d1:((y:Int) == 16)=false:=by simp;omega
    have d2:((y:Int) == 17)=false:=by simp;omega
    have d3:((y:Int) == 18)=false:=by simp;omega
    have D:=Lib.hid (show True from trivial)
    clear c1 c2 c3 e
    go_enter Tryz.func134,Tryz.ntmps134
    go_wp2
    go_ret
    exact ⟨rfl,rfl⟩
structure Rows2 (w:World) (q:Nat) (A:Nat→Option Addr) (C:Nat→Nat) (Z:Nat→List Int):Prop where
 cell:∀ k,k<2→w.cell? ⟨q,k,none⟩=some (.slice (A k) (Z k).length (C k))
 is:∀ k,k<2→IS w (A k) (Z k)
 some_:∀ k,k<2→A k=none→C k=0
 len:∀ k,k<2→(Z k).length≤300
theorem Rows2.below {w w':World} {q:Nat} {A:Nat→Option Addr} {C:Nat→Nat} {Z:Nat→List Int} (h:Rows2 w q A C Z) (hb:Below w.heap.size w w'):Rows2 w' q A C Z:=
 ⟨fun k hk=>(hb.cell (World.block_lt_of_cell? w _ (h.cell k hk))).trans (h.cell k hk),fun k hk=>(h.is k hk).below hb,h.some_,h.len⟩
theorem Rows2.cat_le {w:World} {q:Nat} {A:Nat→Option Addr} {C:Nat→Nat} {Z:Nat→List Int} (h:Rows2 w q A C Z):∀ k,k≤2→(cat Z k).length≤300*k:=by
 intro k
 induction k with
 | zero=>intro _;simp [cat_zero]
 | succ k ih=>
  intro hk
  rw [cat_succ,List.length_append]
  have:=ih (by omega)
  have:=h.len k (by omega)
  omega
set_option maxHeartbeats 1600000 in
theorem concat_two (q:Nat) (A:Nat→Option Addr) (C:Nat→Nat) (Z:Nat→List Int) (w:World) (h:Rows2 w q A C Z) (h1:1≤(cat Z 2).length) :
  Calls Tryz.prog 120 #[.slice (some ⟨q,0,none⟩) 2 2] w (Cats w (cat Z 2)):=by
 have hle:=h.cat_le
 have H:=Lib.hid h
 clear h
 go_enter Tryz.func120,Tryz.ntmps120
 go_wp2
 go_loop [3,11] (fun v iv'=>∃ k:Nat,k≤2∧iv' = .int .i64 k∧v = .int .i64 ((cat Z k).length:Nat)) (fun _ iv'=>2-(intOf iv').toNat)
 case atStart=>exact ⟨0,by omega,rfl,by simp [cat_zero]⟩
 case round=>
  obtain ⟨k,hk,rfl,rfl⟩:=hrel
  by_cases hlt:k<2
  ·have hc:=H.out.cell k hlt
   have hl:=H.out.len k hlt
   have hs:=hle k hk
   have hlt':(k:Int)<2:=by omega
   obtain ⟨m,hm⟩:∃ m,m=(cat Z k).length:=⟨_,rfl⟩
   have HS:Hid ((cat Z (k+1)).length=m+(Z k).length):=Lib.hid (by rw [cat_succ,List.length_append,hm])
   rw [←hm] at hs ⊢
   have d0:decide (((m:Int)+(Z k).length)<0)=false:=by simp;omega
   clear hm
   go_wp2
   go_round
   case rel=>exact ⟨k+1,by omega,by go_num,by rw [HS.out];go_num⟩
   case measure=>simp [intOf];omega
  ·have hk4:k=2:=by omega
   have hge:(2:Int)≤k:=by omega
   have hs:=hle 2 (by omega)
   obtain ⟨m,hm⟩:∃ m,m=(cat Z k).length:=⟨_,rfl⟩
   have hm4:(cat Z 2).length=m:=by rw [hm,hk4]
   rw [hm4] at hs h1
   rw [←hm]
   have HM:=Lib.hid hm4
   clear hm hm4 hk4
   go_wp2_with (go_at_call 152;(refine (grow_none m _ h1 (by omega)).mono ?_);rintro e w2 ⟨c,rfl,ho,hb⟩;have HO:=Lib.hid ho;have HB:=Lib.hid hb;clear ho hb)
   go_loopw [6,27] (fun v iv' wr=>∃ (k:Nat) (ao:Option Addr) (c:Nat),k≤2∧iv' = .int .i64 k∧v = .slice ao (cat Z k).length c∧wr.ownsRow w.heap.size 3 1 (.slice ao (cat Z k).length c) (cat Z k).length (iv (cat Z k))∧Below w.heap.size w wr) (fun _ iv' _=>2-(intOf iv').toNat)
   case atStart=>exact ⟨0,some ⟨w.heap.size,0,none⟩,c,by omega,rfl,by simp [cat_zero],by simpa [cat_zero,iv] using HO.out,HB.out⟩
   case round=>
    clear HO HB
    obtain ⟨k,ao,c,hk,rfl,rfl,ho,hb⟩:=hrel
    have HO:=Lib.hid ho
    have HB:=Lib.hid hb
    clear ho hb
    by_cases hlt:k<2
    ·have H2:=Lib.hid (H.out.below HB.out)
     have hc:=H2.out.cell k hlt
     have hl:=H2.out.len k hlt
     have hs:=hle k hk
     have hlt':(k:Int)<2:=by omega
     have HCA:=Lib.hid ((H2.out.is k hlt).cells (c:=C k) fun _=>H2.out.some_ k hlt)
     obtain ⟨ys,hys⟩:∃ ys,ys=cat Z k:=⟨_,rfl⟩
     have hys1:Hid (cat Z (k+1)=ys++Z k):=Lib.hid (by rw [cat_succ,hys])
     rw [←hys] at HO hs ⊢
     have hsz:=HB.out.size
     clear hys
     go_wp2_with (refine wpList_append_g at22 rfl (.tmp 31) (.tmp 32) rfl w.heap.size (.slice ao ys.length c) (.slice (A k) (Z k).length (C k)) ys.length (Z k).length (iv ys) (iv (Z k)) rfl rfl HO.out HCA.out (by simp [iv_len]) (iv_one _) hsz (by omega) (by omega) ?_;intro ao2 c2 w4 hA;have HA:=Lib.hid hA;clear hA)
     go_roundw
     case rel=>
      refine ⟨k+1,ao2,c2,by omega,by go_num,?_,?_,HB.out.trans (HA.out.below HO.out hsz)⟩
      ·rw [hys1.out,List.length_append]
      ·have:=HA.out.own
       rw [iv_app] at this
       rw [hys1.out,List.length_append]
       exact this
     case measure=>simp [intOf];omega
    ·have hge:(2:Int)≤k:=by omega
     have hk4:=Lib.hid (show k=2 by omega)
     go_wp2
     go_ret
     have e:=hk4.out
     subst e
     exact ⟨ao,c,rfl,HO.out,HB.out⟩
theorem y_nat_ints (ls:List Nat):Y.nat (Y.ints ls)=ls:=nat_ints ls
theorem build_row (ns:List Nat) (lim:Nat) (ao:Option Addr) (c n:Nat) (w:World) (h:IS w ao (Y.ints ns)) (hn:n=ns.length) (hl:ns.length≤320) (hM:∀ x∈ns,x≤1099511627776) (hlim:1≤lim∧lim≤15) (hu:uses ns≤2^lim) :
  Calls Tryz.prog 161 #[.slice ao n c,.int .i64 lim] w fun e w'=>∃ g,e = .returned (.tuple #[.slice (some ⟨g,0,none⟩) n n,.int .i64 0])∧Blk w' g 3 (va n fun y => .int .i64 ((bldF ns lim).getD y 0:Nat))∧Below w.heap.size w w'∧w.heap.size≤g:=by
 subst hn
 have hf:Y.Fine (Y.ints ns) lim:=⟨by rw [Y.ints_len];exact hl,fun z hz=>by
  obtain ⟨x,hx,rfl⟩:=List.mem_map.1 hz
  have:=hM x hx
  unfold Y.maxC
  omega,hlim⟩
 have:=Y.build_fine ao c (Y.ints ns) lim w h hf
 rw [Y.ints_len] at this
 refine this.mono ?_
 rintro e w' (⟨h1,_⟩ | ⟨g,us,rfl,hU,hul,hB,hb,hg⟩)
 ·rw [y_nat_ints] at h1
  exact absurd h1 (by unfold uses at hu;omega)
 ·rw [y_nat_ints] at hU hB
  rw [Y.ints_len] at hB ⊢
  have hus:us=usF ns:=usF_one hU.perm (hU.lex.imp fun h=>by unfold lexle;exact decide_eq_true h)
  subst hus
  refine ⟨g,rfl,?_,hb,hg⟩
  have e:va ns.length (fun y => .int .i64 ((bldF ns lim).getD y 0:Nat))=ia ns.length (Y.LF (usF ns) (Y.lenG (Y.cts ns (usF ns)) (lim-1))):=va_congr fun i hi=>by
   unfold bldF
   rw [Y.lens_at _ _ _ hi]
  rw [e]
  exact hB
def RowTo (w:World) (ls:List Nat) (e:Ending) (w':World):Prop:=∃ g c,e = .returned (.slice (some ⟨g,0,none⟩) ls.length c)∧IS w' (some ⟨g,0,none⟩) (Y.ints ls)∧Below w.heap.size w w'
theorem row_is {w:World} {g n:Nat} {L:List Nat} (h:Blk w g 3 (va n fun y => .int .i64 (L.getD y 0:Nat))) (k:Nat) (hk:k≤n) (hn:n=L.length):IS w (some ⟨g,0,none⟩) (Y.ints (L.take k)):=by
 refine .inr ⟨g,0,rfl,fun j hj=>?_⟩
 rw [Y.ints_len,List.length_take] at hj
 rw [Nat.zero_add,h.cell,va_at _ _ _ (by omega),Y.ints_at]
 simp only [List.getD_eq_getElem?_getD,List.getElem?_take_of_lt (show j<k by omega)]
set_option maxHeartbeats 1600000 in
theorem lengths_for (few:Nat) (ns:List Nat) (ao:Option Addr) (c n:Nat) (w:World) (h:IS w ao (Y.ints ns)) (hn:n=ns.length) (hl:ns.length≤300) (hM:∀ x∈ns,x≤100000) (hf:few≤n) (h1:1≤few) :
  Calls Tryz.prog 127 #[.slice ao n c,.int .i64 few] w (RowTo w ((bldF ns 15).take (trz few (bldF ns 15) n))):=by
 have HB0:=Lib.hid (build_row ns 15 ao c n w h hn (by omega) (fun x hx=>by have:=hM x hx;omega) ⟨by omega,by omega⟩ (by have:=uses_le ns;omega))
 obtain ⟨L,hL⟩:∃ L,L=bldF ns 15:=⟨_,rfl⟩
 have HL:Hid (n=L.length):=Lib.hid (by rw [hL,bld_len];exact hn)
 rw [←hL] at HB0 ⊢
 have hn3:n≤300:=by omega
 clear hL h hn hl hM
 go_enter Tryz.func127,Tryz.ntmps127
 go_wp2_with fail
 refine HB0.out.mono ?_
 rintro e w1 ⟨g,rfl,hB,hb,hg⟩
 have B1:=Lib.hid hb
 have R1:=Lib.hid hB
 clear hB hb hg HB0
 go_wp2_with fail
 go_loopw [7] (fun v7 wr=>∃ (k:Nat),k≤n∧few≤k∧v7 = .int .i64 (k:Nat)∧trz few L k=trz few L n∧wr=w1) (fun v7 _=>(intOf v7).toNat)
 case atStart=>exact ⟨n,Nat.le_refl _,hf,rfl,rfl,rfl⟩
 case round=>
  obtain ⟨k,hk,hfk,rfl,ht,rfl⟩:=hrel
  have HT:=Lib.hid ht
  clear ht
  have hk':(k:Int)≤n:=by omega
  have hk2:(k:Int)≤((n-0:Nat):Int):=by omega
  by_cases c1:few<k
  ·have c1':(few:Int)<k:=by omega
   obtain ⟨j,hj⟩:∃ j,k=j+1:=⟨k-1,by omega⟩
   have e1:IntKind.i64.wrap ((k:Int)-1)=(j:Int):=by rw [IntKind.wrap_i64];omega
   have hjn:j<n:=by omega
   have hjn':(j:Int)<n:=by omega
   obtain ⟨x,hx⟩:∃ x,x=L.getD j 0:=⟨_,rfl⟩
   have ca:wr.cell? ⟨g,j,none⟩=some (.int .i64 (x:Nat)):=by rw [R1.out.cell,va_at _ _ _ hjn,hx]
   have HJ:=Lib.hid hj
   have HX:=Lib.hid hx
   by_cases h0:x=0
   ·have h0':((x:Int) == 0)=true:=by simp;omega
    have HS:Hid (trz few L j=trz few L n∧few≤j∧j≤n):=Lib.hid ⟨by rw [←HT.out,hj,trz,if_pos ⟨by omega,by rw [←hx];exact h0⟩],by omega,by omega⟩
    have hjk:j<k:=by omega
    clear hj hx h0
    go_wp2
    go_roundw
    case rel=>exact ⟨j,HS.out.2.2,HS.out.2.1,rfl,HS.out.1,by first | rfl | trivial⟩
    case measure=>simp [intOf];omega
   ·have h0':((x:Int) == 0)=false:=by simp;omega
    have HS:Hid (trz few L n=k):=Lib.hid (by rw [←HT.out,hj,trz,if_neg (by rw [←hx];omega)])
    clear hj hx h0
    go_wp2
    go_ret
    have hlen:(L.take (trz few L n)).length=k:=by rw [HS.out,List.length_take];have:=HL.out;omega
    refine ⟨g,n,?_,row_is R1.out _ (by rw [HS.out];omega) HL.out,B1.out⟩
    rw [hlen];rfl
  ·have c1':decide ((few:Int)<k)=false:=decide_eq_false (by omega)
   have c1z:(k:Int)≤few:=by omega
   have HS:Hid (trz few L n=k):=Lib.hid (by
    rw [←HT.out]
    obtain ⟨j,rfl⟩:∃ j,k=j+1:=⟨k-1,by omega⟩
    rw [trz,if_neg (by omega)])
   clear c1
   go_wp2
   go_ret
   have hlen:(L.take (trz few L n)).length=k:=by rw [HS.out,List.length_take];have:=HL.out;omega
   refine ⟨g,n,?_,row_is R1.out _ (by rw [HS.out];omega) HL.out,B1.out⟩
   rw [hlen];rfl
end
end Go.Proofs.YtacpfpghokcdlaaGreatDoor
