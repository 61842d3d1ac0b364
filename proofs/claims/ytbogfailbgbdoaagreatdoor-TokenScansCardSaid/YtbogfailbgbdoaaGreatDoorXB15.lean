/- Part 15. -/
import Derived.Shelf.Strings.IndexAnyAll
import Derived.Test.YtbogfailbgbdoaaGreatDoorXB14
set_option linter.unusedVariables false
set_option linter.unusedSimpArgs false
namespace Go.Proofs.YtbogfailbgbdoaaGreatDoor.K
set_option maxRecDepth 100000
section
open Go.RowKit Go.Proofs.YtbogfailbgbdoaaGreatDoor U
def RwTo (p:Nat) (xs:List Nat) (k fr pl:Nat) (r:Except Nat Nat) (w:World) (e:Ending) (w':World):Prop:=
 Touch (fun i=>i=p) w w'∧match r with
  | .ok n=>e = .returned (.string (txt ((xs.drop k).take n)))∧Rp w' p xs (k+n) fr 0 pl
  | .error x=>e = .returned (.string (txt []))∧Rp w' p xs k fr x fr
def wdAt (L M:List Nat) (j:Nat):Prop:=(j=0∨(0<j∧begP (nx L).1=true))∧sk goP L=j+sk goP M
theorem nmP_at {L M:List Nat} {j:Nat} (h:wdAt L M j) (hj:0<j) (hg:goP (nx M).1=false):nmP L = .ok j:=by
 obtain ⟨h1,h2⟩:=h
 rcases h1 with h1 | h1
 ·omega
 ·unfold nmP
  rw [if_pos h1.2,h2,sk_no hg]
  rfl
theorem slice_to (S:ByteArray) (n a b:Nat) (hS:S.size=n) (h1:a≤b) (h2:b≤n):∀ W,(Instr.slice 9 (.string S) (some (.int .i64 (a:Nat))) (some (.int .i64 (b:Nat))) none).run Tryz.prog W = .ok (.string (S.extract a b)) W:=fun W=>by
 have h3:(0:Int)≤a∧(a:Int)≤b:=by omega
 have h4:(b:Int)≤S.size:=by rw [hS];omega
 simp [go_sem,h3,h4]
theorem slice_end (S:ByteArray) (n a:Nat) (hS:S.size=n) (h1:a≤n):∀ W,(Instr.slice 9 (.string S) (some (.int .i64 (a:Nat))) none none).run Tryz.prog W = .ok (.string (S.extract a n)) W:=fun W=>by
 have h3:(0:Int)≤a∧(a:Int)≤S.size:=by rw [hS];omega
 have h5:¬n<a:=by omega
 simp [go_sem,h3,hS,h5]
theorem beg_goes (v:Nat) (h:begP v=true):goP v=true:=by
 unfold goP goesP
 rw [show wth beginsL (v:Int)=true from h]
 rfl
set_option maxHeartbeats 12800000 in
theorem rword_ok (w:World) (p:Nat) (xs:List Nat) (k fr pl:Nat) (h:Rp w p xs k fr 0 pl) :
  Calls Tryz.prog 47 #[.pointer (some ⟨p,0,none⟩)] w (RwTo p xs k fr pl (nmP (xs.drop k)) w):=by
 have H:=Lib.hid h
 have hlen:=h.len
 have hkl:=h.le
 have hbs:=Lib.hid h.bs
 have c1:=h.c1
 have hSz:(txt xs).size=xs.length:=txt_size xs
 obtain ⟨RES,hRES⟩:∃ RES,RES=nmP (xs.drop k):=⟨_,rfl⟩
 rw [←hRES]
 have HR0:=Lib.hid hRES
 have KF:Hid (∀ W,Rp W p xs k fr 0 pl→Calls Tryz.prog 49 #[.pointer (some ⟨p,0,none⟩),.int .i64 22] W fun e w'=>e = .returned (.tuple #[])∧Touch (fun i=>i=p) W w'∧Rp w' p xs k fr 22 fr):=Lib.hid fun W h=>rfail_any W p xs k fr 0 pl 22 h
 have HEX:=Lib.hid fun i j=>txt_extract xs i j
 obtain ⟨S,hS⟩:∃ S,S=txt xs:=⟨_,rfl⟩
 have HS:=Lib.hid hS
 rw [←hS] at hSz HEX
 have hsl0:=slice_to S xs.length k k hSz (Nat.le_refl _) hkl
 rw [show S.extract k k=txt [] by rw [HEX.out,Nat.sub_self];rfl] at hsl0
 have HSZ:=Lib.hid hSz
 have HSL0:=Lib.hid hsl0
 clear h hRES hS hsl0
 go_enter Tryz.func47,Tryz.ntmps47
 go_wp2
 go_loopg [4,5] (xs.length-k) (fun gh _ _ wr=>∃ j:Nat,Hid (Touch (fun i=>i=p) w wr)∧Hid (Rp wr p xs (k+j) fr 0 pl)∧Hid (wdAt (xs.drop k) (xs.drop (k+j)) j)∧xs.length-(k+j)≤gh∧k+j≤xs.length)
 case atStart=>exact ⟨0,Lib.hid (Touch.refl _ _),H,Lib.hid ⟨.inl rfl,by rw [Nat.zero_add,Nat.add_zero]⟩,by omega,by omega⟩
 case round=>
  obtain ⟨j,ht,hrp,hst,hgh,hkj⟩:=hrel
  obtain ⟨kk,hkk⟩:∃ kk,kk=k+j:=⟨_,rfl⟩
  have HKK:=Lib.hid hkk
  rw [←hkk] at hrp hst hgh hkj
  clear hkk
  clear c1
  have c0:=hrp.out.c0
  rw [←HS.out] at c0
  have c1:=hrp.out.c1
  have c3:=hrp.out.c3
  have f1:=hrp.out.blk.free 1
  have HST:=Lib.hid hst.out
  by_cases hlt:kk<xs.length
  ·obtain ⟨v,n,hvn⟩:∃ v n,nx (xs.drop kk)=(v,n):=⟨_,_,rfl⟩
   have HVN:=Lib.hid hvn
   have hn4:=nx_le4 (xs.drop kk) (hbs.out.drop kk)
   rw [hvn,List.length_drop] at hn4
   simp only at hn4
   obtain ⟨SX,hSX⟩:∃ SX,SX=S.extract kk xs.length:=⟨_,rfl⟩
   have hSXt:SX=txt (xs.drop kk):=by rw [hSX,HEX.out,←List.length_drop,List.take_length]
   have hsl:=slice_end S xs.length kk hSz hkj
   rw [←hSX] at hsl
   obtain ⟨NEW,CAP,hcvt,hnb,hns⟩:=text_run SX (by rw [hSXt,txt_size,List.length_drop];omega)
   rw [hSXt,bts_txt (hbs.out.drop _)] at hns
   have hnd:∀ q,Below wr.heap.size wr (NEW (wr.drewN q)):=fun q=>(below_drewN (Below.refl _ wr) q).trans ((hnb (wr.drewN q)).mono (show wr.heap.size≤(wr.drewN q).heap.size from Nat.le_refl _))
   have K:=fun q=>rNext_any _ _ (xs.drop kk) ((0:Nat):Int) (NEW (wr.drewN q)) (hns (wr.drewN q)) (by rw [List.length_drop];omega)
   rw [nxF_nat,List.drop_zero,hvn] at K
   simp only at K
   rw [show (xs.drop kk).length=SX.size by rw [hSXt,txt_size]] at K
   obtain ⟨m,hm⟩:∃ m,m=SX.size:=⟨_,rfl⟩
   rw [←hm] at K hcvt
   have K:Hid (∀ q,Calls Tryz.prog 31 #[.slice (some ⟨wr.heap.size,0,none⟩) m (CAP (wr.drewN q)),.int .i64 0] (NEW (wr.drewN q)) fun e w'=>e = .returned (.tuple #[.int .i64 (v:Nat),.int .i64 (n:Nat)])∧Below (NEW (wr.drewN q)).heap.size (NEW (wr.drewN q)) w'):=Lib.hid K
   have HP:=hrp.out.blk.lt
   have HND:=Lib.hid hnd
   have KB:=Lib.hid fun W=>rBegins_any (v:Int) W
   have KG:=Lib.hid fun W=>rGoes_any (v:Int) W
   rw [show wth beginsL (v:Int)=begP v from rfl] at KB
   rw [show goesP (v:Int)=goP v from rfl] at KG
   have HBG:Hid (begP v=true→goP v=true):=Lib.hid (beg_goes v)
   obtain ⟨bb,hbb⟩:∃ b,b=begP v:=⟨_,rfl⟩
   obtain ⟨gg,hgg⟩:∃ b,b=goP v:=⟨_,rfl⟩
   rw [←hbb] at KB HBG
   rw [←hgg] at KG HBG
   have HBB:=Lib.hid hbb
   have HGG:=Lib.hid hgg
   have hn1:gg=true→0<n:=fun e=>by
    have:=nx_zero (p:=goP) goP_zero (L:=xs.drop kk) (by rw [hvn,←hgg];exact e)
    rw [hvn] at this;exact this.1
   have HN1:=Lib.hid hn1
   have HN4:=Lib.hid hn4
   have HNEXT:Hid (gg=true→(j=0→bb=true)→wdAt (xs.drop k) (xs.drop (k+(j+n))) (j+n)):=Lib.hid fun e e2=>by
    have hk1:=HKK.out
    have hg:goP (nx (xs.drop kk)).1=true:=by rw [hvn,←hgg];exact e
    have hs:=sk_yes goP_zero hg
    rw [hvn,List.drop_drop] at hs
    simp only at hs
    have hn0:=hn1 e
    obtain ⟨a1,a2⟩:=HST.out
    refine ⟨.inr ⟨by omega,?_⟩,by rw [a2,hs,←Nat.add_assoc k j n,←hk1];omega⟩
    rcases a1 with a1 | a1
    ·have hk0:=HKK.out
     rw [a1,Nat.add_zero] at hk0
     rw [hk0] at hvn
     rw [hvn,←hbb];exact e2 a1
    ·exact a1.2
   have HLT:=Lib.hid hlt
   have HWD:=Lib.hid hst.out
   clear hvn hn4 hSX hSXt hnb hns hm hnd hbb hgg hn1 hlt hst HST
   by_cases hj0:j=0
   ·subst hj0
    have hkk:=HKK.out
    rw [Nat.add_zero] at hkk
    subst hkk
    have hltI:(kk:Int)<xs.length:=by have:=HLT.out;omega
    have hltS:(kk:Int)<S.size:=by have:=HLT.out;have:=HSZ.out;omega
    have AF:Hid (∀ W,Below wr.heap.size wr W→(fun W=>W.cell? ⟨p,0,none⟩=some (.string S)∧W.cell? ⟨p,1,none⟩=some (.int .i64 (kk:Nat))) W):=Lib.hid fun W hW=>⟨(hW.cell HP).trans c0,(hW.cell HP).trans c1⟩
    cases bb with
    | false=>
     have HRR:Hid (RES = .error 22):=Lib.hid (by rw [HR0.out];unfold nmP;rw [HVN.out,if_neg (by rw [←HBB.out];decide)])
     have hsl0:=HSL0.out
     go_upto_region 2 with fail
     go_quiet (fail)
     go_upto_region 3 with fail
     refine wp_region_held_drew (S:=fun W=>W.cell? ⟨p,0,none⟩=some (.string S)∧W.cell? ⟨p,1,none⟩=some (.int .i64 (kk:Nat))) (by kernel_rfl) ⟨c0,c1⟩ (fun hHeld=>?_)
     refine tC 0 (.pointer (some ⟨p,0,none⟩)) hHeld ?_
     refine tC 1 (.pointer (some ⟨p,0,none⟩)) hHeld ?_
     refine tC 2 (.pointer (some ⟨p,0,none⟩)) hHeld ?_
     refine tC 3 (.string S) hHeld ?_
     refine tC 4 (.pointer (some ⟨p,0,none⟩)) hHeld ?_
     refine tC 5 (.pointer (some ⟨p,0,none⟩)) hHeld ?_
     refine tC 6 (.pointer (some ⟨p,1,none⟩)) hHeld ?_
     refine tC 7 (.int .i64 (kk:Nat)) hHeld ?_
     refine tC 8 (.string SX) hHeld ?_
     try simp only [List.set_cons_zero,List.set_cons_succ]
     refine wpAnyH_ready (rs:=[9]) (by kernel_rfl) (by simp) ?_
     refine AllReadyH.cons (o:={ dst:=some 37,op:=Op.convert 9 22 (Operand.tmp 36),type:=22,pos := "ref.go:81",after := #[{ on:=8,ground:=Ground.data }],guard:=none }) rfl (fun KQ hK=>?_) AllReadyH.nil
     go_simp
     refine hK.out _ _ (AF.out _ (HND.out _)) (fun hHeld=>?_)
     try simp only [Act.put,List.setIfInBounds_toArray,List.set_cons_zero,List.set_cons_succ]
     try simp only [List.set_cons_zero,List.set_cons_succ]
     refine wpAnyH_ready (rs:=[10]) (by kernel_rfl) (by simp) ?_
     refine AllReadyH.cons (o:={ dst:=some 38,op:=Op.call { callee:=Callee.value (Operand.func 31),args := #[Operand.tmp 37,Operand.const (Value.int IntKind.i64 0)],argTypes := #[22,3] },type:=63,pos := "ref.go:81",after := #[{ on:=9,ground:=Ground.data }],guard:=none }) rfl (fun KQ hK=>?_) AllReadyH.nil
     go_simp
     go_at_call 31
     (with_reducible refine (K.out _).mono ?_)
     rintro e w1 ⟨rfl,hb1⟩
     have HB1:=Lib.hid ((HND.out _).trans (hb1.mono (HND.out _).size))
     clear hb1
     refine hK.out _ _ (AF.out _ HB1.out) (fun hHeld=>?_)
     try simp only [Act.put,List.setIfInBounds_toArray,List.set_cons_zero,List.set_cons_succ]
     refine tC 11 (.tuple #[.int .i64 (v:Nat),.int .i64 (n:Nat)]) hHeld ?_
     refine tC 12 (.int .i64 (v:Nat)) hHeld ?_
     refine tC 13 (.int .i64 (n:Nat)) hHeld ?_
     refine tC 14 (.int .i64 (v:Nat)) hHeld ?_
     refine tC 15 (.int .i64 (n:Nat)) hHeld ?_
     refine wpAnyH_done (by kernel_rfl) ?_ _
     try simp only [List.set_cons_zero,List.set_cons_succ]
     have HS1:=Lib.hid (hrp.out.below HB1.out)
     have HT1:=Lib.hid (ht.out.trans (Touch.of_below HB1.out))
     clear c0 c1 c3 f1
     have c1:=HS1.out.c1
     have c3:=HS1.out.c3
     have c0:=HS1.out.c0
     rw [←HS.out] at c0
     go_upto_region 8 with (first
      | (go_at_call 77;(with_reducible refine (KB.out w1).mono ?_);rintro e w2 ⟨rfl,hb2⟩;have HS2:=Lib.hid (HS1.out.below hb2);have HT2:=Lib.hid (HT1.out.trans (Touch.of_below hb2));clear c0 c1 c3 hb2;have c1:=HS2.out.c1;have c3:=HS2.out.c3;have c0:=HS2.out.c0;rw [←HS.out] at c0)
      | (go_at_call 49;refine (KF.out _ HS2.out).mono ?_;rintro e w9 ⟨rfl,ht9,hs9⟩;have HT9:=Lib.hid (HT2.out.trans ht9);have HS9:=Lib.hid hs9;clear c0 c1 c3 ht9 hs9;have c1:=HS9.out.c1;have c3:=HS9.out.c3;have c0:=HS9.out.c0;rw [←HS.out] at c0))
     go_quiet (fail)
     go_wp2
     go_ret
     rw [HRR.out]
     exact ⟨HT9.out.drewN _,rfl,HS9.out.drew _⟩
    | true=>
     obtain rfl:=HBG.out rfl
     have HW:=Lib.hid (HNEXT.out rfl fun _=>rfl)
     have hwr:IntKind.i64.wrap ((kk:Int)+n)=((kk+n:Nat):Int):=by have:=HN4.out.1;rw [IntKind.wrap_i64];omega
     have HL:Hid (kk+n≤xs.length∧0<n):=Lib.hid (by have:=HN4.out.2;have:=HN1.out rfl;omega)
     obtain ⟨tt,htt⟩:∃ tt,tt=kk+n:=⟨_,rfl⟩
     rw [←htt] at hwr HL
     have HTTE:=Lib.hid htt
     clear htt
     go_upto_region 2 with fail
     go_quiet (fail)
     go_upto_region 3 with fail
     refine wp_region_held_drew (S:=fun W=>W.cell? ⟨p,0,none⟩=some (.string S)∧W.cell? ⟨p,1,none⟩=some (.int .i64 (kk:Nat))) (by kernel_rfl) ⟨c0,c1⟩ (fun hHeld=>?_)
     refine tC 0 (.pointer (some ⟨p,0,none⟩)) hHeld ?_
     refine tC 1 (.pointer (some ⟨p,0,none⟩)) hHeld ?_
     refine tC 2 (.pointer (some ⟨p,0,none⟩)) hHeld ?_
     refine tC 3 (.string S) hHeld ?_
     refine tC 4 (.pointer (some ⟨p,0,none⟩)) hHeld ?_
     refine tC 5 (.pointer (some ⟨p,0,none⟩)) hHeld ?_
     refine tC 6 (.pointer (some ⟨p,1,none⟩)) hHeld ?_
     refine tC 7 (.int .i64 (kk:Nat)) hHeld ?_
     refine tC 8 (.string SX) hHeld ?_
     try simp only [List.set_cons_zero,List.set_cons_succ]
     refine wpAnyH_ready (rs:=[9]) (by kernel_rfl) (by simp) ?_
     refine AllReadyH.cons (o:={ dst:=some 37,op:=Op.convert 9 22 (Operand.tmp 36),type:=22,pos := "ref.go:81",after := #[{ on:=8,ground:=Ground.data }],guard:=none }) rfl (fun KQ hK=>?_) AllReadyH.nil
     go_simp
     refine hK.out _ _ (AF.out _ (HND.out _)) (fun hHeld=>?_)
     try simp only [Act.put,List.setIfInBounds_toArray,List.set_cons_zero,List.set_cons_succ]
     try simp only [List.set_cons_zero,List.set_cons_succ]
     refine wpAnyH_ready (rs:=[10]) (by kernel_rfl) (by simp) ?_
     refine AllReadyH.cons (o:={ dst:=some 38,op:=Op.call { callee:=Callee.value (Operand.func 31),args := #[Operand.tmp 37,Operand.const (Value.int IntKind.i64 0)],argTypes := #[22,3] },type:=63,pos := "ref.go:81",after := #[{ on:=9,ground:=Ground.data }],guard:=none }) rfl (fun KQ hK=>?_) AllReadyH.nil
     go_simp
     go_at_call 31
     (with_reducible refine (K.out _).mono ?_)
     rintro e w1 ⟨rfl,hb1⟩
     have HB1:=Lib.hid ((HND.out _).trans (hb1.mono (HND.out _).size))
     clear hb1
     refine hK.out _ _ (AF.out _ HB1.out) (fun hHeld=>?_)
     try simp only [Act.put,List.setIfInBounds_toArray,List.set_cons_zero,List.set_cons_succ]
     refine tC 11 (.tuple #[.int .i64 (v:Nat),.int .i64 (n:Nat)]) hHeld ?_
     refine tC 12 (.int .i64 (v:Nat)) hHeld ?_
     refine tC 13 (.int .i64 (n:Nat)) hHeld ?_
     refine tC 14 (.int .i64 (v:Nat)) hHeld ?_
     refine tC 15 (.int .i64 (n:Nat)) hHeld ?_
     refine wpAnyH_done (by kernel_rfl) ?_ _
     try simp only [List.set_cons_zero,List.set_cons_succ]
     have HS1:=Lib.hid (hrp.out.below HB1.out)
     have HT1:=Lib.hid (ht.out.trans (Touch.of_below HB1.out))
     clear c0 c1 c3 f1
     have c1:=HS1.out.c1
     have c3:=HS1.out.c3
     have c0:=HS1.out.c0
     rw [←HS.out] at c0
     go_wp2_with (first
      | (go_at_call 77;(with_reducible refine (KB.out w1).mono ?_);rintro e w2 ⟨rfl,hb2⟩;have HS2:=Lib.hid (HS1.out.below hb2);have HT2:=Lib.hid (HT1.out.trans (Touch.of_below hb2));clear c0 c1 c3 hb2;have c1:=HS2.out.c1;have c3:=HS2.out.c3;have c0:=HS2.out.c0;rw [←HS.out] at c0)
      | (go_at_call 78;(with_reducible refine (KG.out w2).mono ?_);rintro e w3 ⟨rfl,hb3⟩;have HS3:=Lib.hid (HS2.out.below hb3);have HT3:=Lib.hid (HT2.out.trans (Touch.of_below hb3));clear c0 c1 c3 hb3;have c1:=HS3.out.c1;have c3:=HS3.out.c3;have c0:=HS3.out.c0;rw [←HS.out] at c0;have f1:=HS3.out.blk.free 1))
     have hll:=HL.out
     have htt:=HTTE.out
     go_roundg (xs.length-tt)
     case measure=>omega
     case rel=>exact ⟨n,Lib.hid (HT3.out.trans (touch_set p 1 _ _)),Lib.hid (by rw [←htt];exact HS3.out.set1 tt hll.1),Lib.hid (by have:=HW.out;rwa [Nat.zero_add] at this),by omega,by omega⟩
   ·have hkk:=HKK.out
    have hltI:(kk:Int)<xs.length:=by have:=HLT.out;omega
    have hltS:(kk:Int)<S.size:=by have:=HLT.out;have:=HSZ.out;omega
    have hneI:¬(kk:Int)=k:=by omega
    have hneB:((kk:Int) == k)=false:=beq_eq_false_iff_ne.2 hneI
    have AF:Hid (∀ W,Below wr.heap.size wr W→(fun W=>W.cell? ⟨p,0,none⟩=some (.string S)∧W.cell? ⟨p,1,none⟩=some (.int .i64 (kk:Nat))) W):=Lib.hid fun W hW=>⟨(hW.cell HP).trans c0,(hW.cell HP).trans c1⟩
    cases gg with
    | false=>
     have HRR:Hid (RES = .ok j):=Lib.hid (by rw [HR0.out];exact nmP_at HWD.out (by omega) (by rw [HVN.out];exact HGG.out.symm))
     have hsl2:=slice_to S xs.length k kk hSz (by omega) (by omega)
     obtain ⟨PC,hPC⟩:∃ PC,PC=S.extract k kk:=⟨_,rfl⟩
     rw [←hPC] at hsl2
     have HPC:Hid (PC=txt ((xs.drop k).take j)):=Lib.hid (by rw [hPC,HEX.out,show kk-k=j by omega])
     clear hPC hkk
     go_upto_region 2 with fail
     go_quiet (fail)
     go_upto_region 3 with fail
     refine wp_region_held_drew (S:=fun W=>W.cell? ⟨p,0,none⟩=some (.string S)∧W.cell? ⟨p,1,none⟩=some (.int .i64 (kk:Nat))) (by kernel_rfl) ⟨c0,c1⟩ (fun hHeld=>?_)
     refine tC 0 (.pointer (some ⟨p,0,none⟩)) hHeld ?_
     refine tC 1 (.pointer (some ⟨p,0,none⟩)) hHeld ?_
     refine tC 2 (.pointer (some ⟨p,0,none⟩)) hHeld ?_
     refine tC 3 (.string S) hHeld ?_
     refine tC 4 (.pointer (some ⟨p,0,none⟩)) hHeld ?_
     refine tC 5 (.pointer (some ⟨p,0,none⟩)) hHeld ?_
     refine tC 6 (.pointer (some ⟨p,1,none⟩)) hHeld ?_
     refine tC 7 (.int .i64 (kk:Nat)) hHeld ?_
     refine tC 8 (.string SX) hHeld ?_
     try simp only [List.set_cons_zero,List.set_cons_succ]
     refine wpAnyH_ready (rs:=[9]) (by kernel_rfl) (by simp) ?_
     refine AllReadyH.cons (o:={ dst:=some 37,op:=Op.convert 9 22 (Operand.tmp 36),type:=22,pos := "ref.go:81",after := #[{ on:=8,ground:=Ground.data }],guard:=none }) rfl (fun KQ hK=>?_) AllReadyH.nil
     go_simp
     refine hK.out _ _ (AF.out _ (HND.out _)) (fun hHeld=>?_)
     try simp only [Act.put,List.setIfInBounds_toArray,List.set_cons_zero,List.set_cons_succ]
     try simp only [List.set_cons_zero,List.set_cons_succ]
     refine wpAnyH_ready (rs:=[10]) (by kernel_rfl) (by simp) ?_
     refine AllReadyH.cons (o:={ dst:=some 38,op:=Op.call { callee:=Callee.value (Operand.func 31),args := #[Operand.tmp 37,Operand.const (Value.int IntKind.i64 0)],argTypes := #[22,3] },type:=63,pos := "ref.go:81",after := #[{ on:=9,ground:=Ground.data }],guard:=none }) rfl (fun KQ hK=>?_) AllReadyH.nil
     go_simp
     go_at_call 31
     (with_reducible refine (K.out _).mono ?_)
     rintro e w1 ⟨rfl,hb1⟩
     have HB1:=Lib.hid ((HND.out _).trans (hb1.mono (HND.out _).size))
     clear hb1
     refine hK.out _ _ (AF.out _ HB1.out) (fun hHeld=>?_)
     try simp only [Act.put,List.setIfInBounds_toArray,List.set_cons_zero,List.set_cons_succ]
     refine tC 11 (.tuple #[.int .i64 (v:Nat),.int .i64 (n:Nat)]) hHeld ?_
     refine tC 12 (.int .i64 (v:Nat)) hHeld ?_
     refine tC 13 (.int .i64 (n:Nat)) hHeld ?_
     refine tC 14 (.int .i64 (v:Nat)) hHeld ?_
     refine tC 15 (.int .i64 (n:Nat)) hHeld ?_
     refine wpAnyH_done (by kernel_rfl) ?_ _
     try simp only [List.set_cons_zero,List.set_cons_succ]
     have HS1:=Lib.hid (hrp.out.below HB1.out)
     have HT1:=Lib.hid (ht.out.trans (Touch.of_below HB1.out))
     clear c0 c1 c3 f1
     have c1:=HS1.out.c1
     have c3:=HS1.out.c3
     have c0:=HS1.out.c0
     rw [←HS.out] at c0
     go_upto_region 8 with (first
      | (go_at_call 78;(with_reducible refine (KG.out w1).mono ?_);rintro e w3 ⟨rfl,hb3⟩;have HS3:=Lib.hid (HS1.out.below hb3);have HT3:=Lib.hid (HT1.out.trans (Touch.of_below hb3));clear c0 c1 c3 hb3;have c1:=HS3.out.c1;have c3:=HS3.out.c3;have c0:=HS3.out.c0;rw [←HS.out] at c0;have f1:=HS3.out.blk.free 1))
     go_quiet (fail)
     go_wp2
     go_ret
     rw [HRR.out]
     exact ⟨HT3.out.drewN _,by rw [HPC.out];rfl,by rw [←HKK.out];exact HS3.out.drew _⟩
    | true=>
     have HW:=Lib.hid (HNEXT.out rfl fun e=>absurd e (by omega))
     have hwr:IntKind.i64.wrap ((kk:Int)+n)=((kk+n:Nat):Int):=by have:=HN4.out.1;rw [IntKind.wrap_i64];omega
     have HL:Hid (kk+n≤xs.length∧0<n):=Lib.hid (by have:=HN4.out.2;have:=HN1.out rfl;omega)
     obtain ⟨tt,htt⟩:∃ tt,tt=kk+n:=⟨_,rfl⟩
     rw [←htt] at hwr HL
     have HTTE:=Lib.hid htt
     have HE:Hid (k+(j+n)=tt):=Lib.hid (by omega)
     clear htt hkk
     go_upto_region 2 with fail
     go_quiet (fail)
     go_upto_region 3 with fail
     refine wp_region_held_drew (S:=fun W=>W.cell? ⟨p,0,none⟩=some (.string S)∧W.cell? ⟨p,1,none⟩=some (.int .i64 (kk:Nat))) (by kernel_rfl) ⟨c0,c1⟩ (fun hHeld=>?_)
     refine tC 0 (.pointer (some ⟨p,0,none⟩)) hHeld ?_
     refine tC 1 (.pointer (some ⟨p,0,none⟩)) hHeld ?_
     refine tC 2 (.pointer (some ⟨p,0,none⟩)) hHeld ?_
     refine tC 3 (.string S) hHeld ?_
     refine tC 4 (.pointer (some ⟨p,0,none⟩)) hHeld ?_
     refine tC 5 (.pointer (some ⟨p,0,none⟩)) hHeld ?_
     refine tC 6 (.pointer (some ⟨p,1,none⟩)) hHeld ?_
     refine tC 7 (.int .i64 (kk:Nat)) hHeld ?_
     refine tC 8 (.string SX) hHeld ?_
     try simp only [List.set_cons_zero,List.set_cons_succ]
     refine wpAnyH_ready (rs:=[9]) (by kernel_rfl) (by simp) ?_
     refine AllReadyH.cons (o:={ dst:=some 37,op:=Op.convert 9 22 (Operand.tmp 36),type:=22,pos := "ref.go:81",after := #[{ on:=8,ground:=Ground.data }],guard:=none }) rfl (fun KQ hK=>?_) AllReadyH.nil
     go_simp
     refine hK.out _ _ (AF.out _ (HND.out _)) (fun hHeld=>?_)
     try simp only [Act.put,List.setIfInBounds_toArray,List.set_cons_zero,List.set_cons_succ]
     try simp only [List.set_cons_zero,List.set_cons_succ]
     refine wpAnyH_ready (rs:=[10]) (by kernel_rfl) (by simp) ?_
     refine AllReadyH.cons (o:={ dst:=some 38,op:=Op.call { callee:=Callee.value (Operand.func 31),args := #[Operand.tmp 37,Operand.const (Value.int IntKind.i64 0)],argTypes := #[22,3] },type:=63,pos := "ref.go:81",after := #[{ on:=9,ground:=Ground.data }],guard:=none }) rfl (fun KQ hK=>?_) AllReadyH.nil
     go_simp
     go_at_call 31
     (with_reducible refine (K.out _).mono ?_)
     rintro e w1 ⟨rfl,hb1⟩
     have HB1:=Lib.hid ((HND.out _).trans (hb1.mono (HND.out _).size))
     clear hb1
     refine hK.out _ _ (AF.out _ HB1.out) (fun hHeld=>?_)
     try simp only [Act.put,List.setIfInBounds_toArray,List.set_cons_zero,List.set_cons_succ]
     refine tC 11 (.tuple #[.int .i64 (v:Nat),.int .i64 (n:Nat)]) hHeld ?_
     refine tC 12 (.int .i64 (v:Nat)) hHeld ?_
     refine tC 13 (.int .i64 (n:Nat)) hHeld ?_
     refine tC 14 (.int .i64 (v:Nat)) hHeld ?_
     refine tC 15 (.int .i64 (n:Nat)) hHeld ?_
     refine wpAnyH_done (by kernel_rfl) ?_ _
     try simp only [List.set_cons_zero,List.set_cons_succ]
     have HS1:=Lib.hid (hrp.out.below HB1.out)
     have HT1:=Lib.hid (ht.out.trans (Touch.of_below HB1.out))
     clear c0 c1 c3 f1
     have c1:=HS1.out.c1
     have c3:=HS1.out.c3
     have c0:=HS1.out.c0
     rw [←HS.out] at c0
     go_wp2_with (first
      | (go_at_call 78;(with_reducible refine (KG.out w1).mono ?_);rintro e w3 ⟨rfl,hb3⟩;have HS3:=Lib.hid (HS1.out.below hb3);have HT3:=Lib.hid (HT1.out.trans (Touch.of_below hb3));clear c0 c1 c3 hb3;have c1:=HS3.out.c1;have c3:=HS3.out.c3;have c0:=HS3.out.c0;rw [←HS.out] at c0;have f1:=HS3.out.blk.free 1))
     have hll:=HL.out
     have htt:=HTTE.out
     have he:=HE.out
     go_roundg (xs.length-tt)
     case measure=>omega
     case rel=>exact ⟨j+n,Lib.hid (HT3.out.trans (touch_set p 1 _ _)),Lib.hid (by rw [he];exact HS3.out.set1 tt hll.1),HW,by omega,by omega⟩
  ·by_cases hj0:j=0
   ·subst hj0
    have hkk:=HKK.out
    rw [Nat.add_zero] at hkk
    subst hkk
    have HRR:Hid (RES = .error 22):=Lib.hid (by rw [HR0.out,List.drop_eq_nil_of_le (by omega)];rfl)
    have hltI:¬(kk:Int)<xs.length:=by omega
    have hltS:¬(kk:Int)<S.size:=by rw [hSz];omega
    have hsl0:=HSL0.out
    clear hst
    go_upto_region 2 with fail
    go_quiet (fail)
    have HS0:=Lib.hid (hrp.out.drew nq)
    have HT0:=Lib.hid (ht.out.drewN nq)
    go_upto_region 8 with (first
     | (go_at_call 49;refine (KF.out _ HS0.out).mono ?_;rintro e w9 ⟨rfl,ht9,hs9⟩;have HT9:=Lib.hid (HT0.out.trans ht9);have HS9:=Lib.hid hs9;clear c0 c1 c3 ht9 hs9;have c1:=HS9.out.c1;have c3:=HS9.out.c3;have c0:=HS9.out.c0;rw [←HS.out] at c0))
    go_quiet (fail)
    go_wp2
    go_ret
    rw [HRR.out]
    exact ⟨HT9.out.drewN _,rfl,HS9.out.drew _⟩
   ·have hkk:=HKK.out
    have hltI:¬(kk:Int)<xs.length:=by omega
    have hltS:¬(kk:Int)<S.size:=by rw [hSz];omega
    have hneI:¬(kk:Int)=k:=by omega
    have hneB:((kk:Int) == k)=false:=beq_eq_false_iff_ne.2 hneI
    have HRR:Hid (RES = .ok j):=Lib.hid (by rw [HR0.out];exact nmP_at hst.out (by omega) (by rw [List.drop_eq_nil_of_le (by omega)];decide +kernel))
    have hsl2:=slice_to S xs.length k kk hSz (by omega) (by omega)
    obtain ⟨PC,hPC⟩:∃ PC,PC=S.extract k kk:=⟨_,rfl⟩
    rw [←hPC] at hsl2
    have HPC:Hid (PC=txt ((xs.drop k).take j)):=Lib.hid (by rw [hPC,HEX.out,show kk-k=j by omega])
    clear hPC
    clear hst hkk
    go_upto_region 2 with fail
    go_quiet (fail)
    have HS0:=Lib.hid (hrp.out.drew nq)
    have HT0:=Lib.hid (ht.out.drewN nq)
    go_upto_region 8 with fail
    go_quiet (fail)
    go_wp2
    go_ret
    rw [HRR.out]
    exact ⟨ht.out.drewN _,by rw [HPC.out];rfl,by rw [←HKK.out];exact hrp.out.drew _⟩
set_option maxHeartbeats 3200000 in
theorem rword_err (w:World) (p:Nat) (xs:List Nat) (k fr er pl:Nat) (he:er≠0) (h:Rp w p xs k fr er pl) :
  Calls Tryz.prog 47 #[.pointer (some ⟨p,0,none⟩)] w fun e w'=>e = .returned (.string (txt []))∧Touch (fun i=>i=p) w w'∧Rp w' p xs k fr er pl:=by
 have H:=Lib.hid h
 have hlen:=h.len
 have hkl:=h.le
 have c0:=h.c0
 have c1:=h.c1
 have c3:=h.c3
 have hSz:(txt xs).size=xs.length:=txt_size xs
 have KF:=Lib.hid fun (W:World) (h:Rp W p xs k fr er pl)=>rfail_any W p xs k fr er pl 22 h
 simp only [if_neg he] at KF
 have HEX:=Lib.hid fun i j=>txt_extract xs i j
 obtain ⟨S,hS⟩:∃ S,S=txt xs:=⟨_,rfl⟩
 have HS:=Lib.hid hS
 rw [←hS] at hSz c0 HEX
 have hsl0:=slice_to S xs.length k k hSz (Nat.le_refl _) hkl
 rw [show S.extract k k=txt [] by rw [HEX.out,Nat.sub_self];rfl] at hsl0
 have heI:((er:Int) == 0)=false:=beq_eq_false_iff_ne.2 (by omega)
 have heI2:¬(er:Int)=0:=by omega
 clear h hS
 go_enter Tryz.func47,Tryz.ntmps47
 go_wp2
 go_loopg [4,5] 0 (fun gh _ _ wr=>wr=w)
 case atStart=>rfl
 case round=>
  subst hrel
  go_upto_region 2 with fail
  go_quiet (fail)
  have HS0:=Lib.hid (H.out.drew nq)
  have HT0:=Lib.hid ((Touch.refl (fun i=>i=p) wr).drewN nq)
  go_upto_region 8 with (first
   | (go_at_call 49;refine (KF.out _ HS0.out).mono ?_;rintro e w9 ⟨rfl,ht9,hs9⟩;have HT9:=Lib.hid (HT0.out.trans ht9);have HS9:=Lib.hid hs9;clear c0 c1 c3 ht9 hs9;have c1:=HS9.out.c1;have c3:=HS9.out.c3;have c0:=HS9.out.c0;rw [←HS.out] at c0))
  go_quiet (fail)
  go_wp2
  go_ret
  exact ⟨rfl,HT9.out.drewN _,HS9.out.drew _⟩
theorem qword (w:World) (p:Nat) (xs:List Nat) (k fr er:Nat) (h:Rq w p xs k fr er) :
  Calls Tryz.prog 47 #[.pointer (some ⟨p,0,none⟩)] w (Rs p xs fr (.string (txt (wdR (xs.drop k) er).1)) (k+(wdR (xs.drop k) er).2.1) (wdR (xs.drop k) er).2.2 w):=by
 obtain ⟨pl,h1,h2⟩:=h
 unfold wdR
 by_cases he:er=0
 ·subst he
  rw [if_pos rfl]
  refine (rword_ok w p xs k fr pl h1).mono ?_
  rintro e w' ⟨ht,hr⟩
  rcases hi:nmP (xs.drop k) with x | n
  ·rw [hi] at hr
   exact ⟨hr.1,ht,_,hr.2,fun _=>rfl⟩
  ·rw [hi] at hr
   exact ⟨hr.1,ht,_,hr.2,h2⟩
 ·rw [if_neg he]
  refine (rword_err w p xs k fr er pl he h1).mono ?_
  rintro e w' ⟨h3,ht,hr⟩
  exact ⟨h3,ht,_,hr,h2⟩
theorem wdR_bs {L:List Nat} (hb:Bs L) (er:Nat):Bs (wdR L er).1∧(wdR L er).1.length≤L.length∧(wdR L er).2.1≤L.length:=by
 unfold wdR
 by_cases he:er=0
 ·rw [if_pos he]
  rcases hi:nmP L with x | n
  ·exact ⟨Bs.nil,Nat.zero_le _,Nat.zero_le _⟩
  ·have:=nmP_ok hb hi
   exact ⟨hb.take n,by rw [List.length_take];omega,this.2⟩
 ·rw [if_neg he]
  exact ⟨Bs.nil,Nat.zero_le _,Nat.zero_le _⟩
theorem nmR_bs {L:List Nat} (hb:Bs L) (er:Nat):Bs (nmR L er).1∧(nmR L er).1.length≤2*L.length+1:=by
 unfold nmR
 split
 ·have h1:=wdR_bs hb er
  have h2:=wdR_bs (hb.drop ((wdR L er).2.1+1)) 0
  have h3:=h2.2.1
  rw [List.length_drop] at h3
  refine ⟨?_,by simp only [List.length_append,List.length_cons];omega⟩
  intro x hx
  rcases List.mem_append.1 hx with hx | hx
  ·exact h1.1 x hx
  ·rcases List.mem_cons.1 hx with rfl | hx
   ·decide
   ·exact h2.1 x hx
 ·have h1:=wdR_bs hb er
  exact ⟨h1.1,by omega⟩
set_option maxHeartbeats 3200000 in
theorem qname (w:World) (p:Nat) (xs:List Nat) (k fr er:Nat) (h:Rq w p xs k fr er) :
  Calls Tryz.prog 53 #[.pointer (some ⟨p,0,none⟩)] w (Rs p xs fr (.string (txt (nmR (xs.drop k) er).1)) (k+(nmR (xs.drop k) er).2.1) (nmR (xs.drop k) er).2.2 w):=by
 have hlen:=h.len
 have hkl:=h.le
 have hbs:=h.bs
 have K1:=qword w p xs k fr er h
 have hw1:=wdR_bs (hbs.drop k) er
 rw [List.length_drop] at hw1
 unfold nmR
 generalize wdR (xs.drop k) er=A at K1 hw1 ⊢
 obtain ⟨S1,n1,e1⟩:=A
 simp only at K1 hw1 ⊢
 rw [List.drop_drop,List.drop_drop]
 have hz1:(txt S1).size≤1000000:=by rw [txt_size];omega
 have K2:=Lib.hid fun (W:World) (hW:Rq W p xs (k+n1) fr e1)=>qhas W p xs (k+n1) fr e1 [58] ⟨#[58]⟩ rfl (fun x hx=>by simp at hx;omega) (by simp) hW
 have K1:=Lib.hid K1
 by_cases hc:e1=0∧[58] <+: xs.drop (k+n1)
 ·rw [if_pos hc]
  simp only [decide_eq_true hc,if_pos hc] at K2
  obtain ⟨rfl,hc2⟩:=hc
  obtain ⟨k2,hk2⟩:∃ k2,k2=k+n1+1:=⟨_,rfl⟩
  have K2:Hid (∀ W,Rq W p xs (k+n1) fr 0→Calls Tryz.prog 46 #[.pointer (some ⟨p,0,none⟩),.string ⟨#[58]⟩] W (Rs p xs fr (.bool true) k2 0 W)):=Lib.hid fun W hW=>by rw [hk2];exact K2.out W hW
  have K3:=Lib.hid fun (W:World) (hW:Rq W p xs k2 fr 0)=>qword W p xs k2 fr 0 hW
  rw [show k+(n1+1)=k2 by omega]
  have hw2:=wdR_bs (hbs.drop k2) 0
  rw [List.length_drop] at hw2
  generalize wdR (xs.drop k2) 0=B at K3 hw2 ⊢
  obtain ⟨S2,n2,e2⟩:=B
  simp only at K3 hw2 ⊢
  rw [show k+(n1+1+n2)=k2+n2 by omega]
  have hz2:(txt S2).size≤1000000:=by rw [txt_size];omega
  have HTX:Hid (txt S1++(⟨#[58]⟩++txt S2)=txt (S1++58::S2)):=Lib.hid (by rw [show (⟨#[58]⟩:ByteArray)=txt [58] from rfl,txt_app,txt_app];rfl)
  generalize txt (S1++58::S2)=R at HTX ⊢
  generalize txt S1=T1 at HTX K1 hz1
  generalize txt S2=T2 at HTX K3 hz2
  clear h hk2
  go_enter Tryz.func53,Tryz.ntmps53
  go_wp2_with (first
   | (go_at_call 47;(with_reducible refine K1.out.mono ?_);rintro e w1 ⟨rfl,ht1,hs1⟩;have HT1:=Lib.hid ht1;have HS1:=Lib.hid hs1;clear ht1 hs1)
   | (go_at_call 46;(with_reducible refine (K2.out w1 HS1.out).mono ?_);rintro e w2 ⟨rfl,ht2,hs2⟩;have HT2:=Lib.hid (HT1.out.trans ht2);have HS2:=Lib.hid hs2;clear ht2 hs2)
   | (go_at_call 47;(with_reducible refine (K3.out w2 HS2.out).mono ?_);rintro e w3 ⟨rfl,ht3,hs3⟩;have HT3:=Lib.hid (HT2.out.trans ht3);have HS3:=Lib.hid hs3;clear ht3 hs3))
  go_ret
  exact ⟨by rw [←HTX.out];rfl,HT3.out,HS3.out⟩
 ·rw [if_neg hc]
  simp only [decide_eq_false hc,if_neg hc] at K2
  simp only
  generalize txt S1=T1 at K1 hz1 ⊢
  clear h hc
  go_enter Tryz.func53,Tryz.ntmps53
  go_wp2_with (first
   | (go_at_call 47;(with_reducible refine K1.out.mono ?_);rintro e w1 ⟨rfl,ht1,hs1⟩;have HT1:=Lib.hid ht1;have HS1:=Lib.hid hs1;clear ht1 hs1)
   | (go_at_call 46;(with_reducible refine (K2.out w1 HS1.out).mono ?_);rintro e w2 ⟨rfl,ht2,hs2⟩;have HT2:=Lib.hid (HT1.out.trans ht2);have HS2:=Lib.hid hs2;clear ht2 hs2))
  go_ret
  exact ⟨rfl,HT2.out,HS2.out⟩
theorem low_lt {c:Nat} (h:c<256):low c<256:=by unfold low;split <;> omega
theorem low_bs {L:List Nat} (h:Bs L):Bs (L.map low):=fun x hx=>by
 obtain ⟨y,hy,rfl⟩:=List.mem_map.1 hx
 exact low_lt (h y hy)
set_option maxHeartbeats 6400000 in
theorem rsmall_any (xs:List Nat) (S:ByteArray) (hS:S=txt xs) (hb:Bs xs) (w:World) (hl:xs.length≤3000000) :
  Calls Tryz.prog 48 #[.string S] w fun e w'=>e = .returned (.string (txt (xs.map low)))∧Below w.heap.size w w':=by
 obtain ⟨N,hN⟩:∃ N,N=xs.length:=⟨_,rfl⟩
 have HN:=Lib.hid hN
 have hSN:S.size=N:=by rw [hS,txt_size,hN]
 have HBS:=Lib.hid hb
 have HGET:Hid (∀ i (h:i<S.size),((S[i]'h).toNat)=xs.getD i 0):=Lib.hid fun i h=>by subst hS;exact txt_get xs hb i _
 have HO0:=Lib.hid (own_empty w 5 1)
 have HB0:=Lib.hid (lit_below w (.cells #[] 5))
 have HSN:=Lib.hid hSN
 rw [←hN] at hl
 clear hN hS hb
 go_enter Tryz.func48,Tryz.ntmps48
 go_wp2
 go_loopw [3,4,5] (fun v3 v4 _ wr=>∃ (i:Nat) (a:Option Addr) (c':Nat) (acc:List Nat),i≤N∧v4 = .int .i64 (i:Nat)∧v3 = .slice a acc.length c'∧acc.length=i∧Hid (acc=(xs.take i).map low)∧Hid (wr.ownsRow w.heap.size 5 1 (.slice a acc.length c') acc.length (u8s acc))∧Hid (Below w.heap.size w wr)) (fun _ v4 _ _=>N-(intOf v4).toNat)
 case atStart=>exact ⟨0,_,0,[],Nat.zero_le _,rfl,rfl,rfl,Lib.hid rfl,HO0,HB0⟩
 case round=>
  clear HO0 HB0
  obtain ⟨i,a,c',acc,hi,rfl,rfl,hac,hrel,hown,hbw⟩:=hrel
  obtain ⟨n,hn⟩:∃ n,n=acc.length:=⟨_,rfl⟩
  by_cases hlt:i<N
  ·have hiS:i<S.size:=by omega
   have hiI:(i:Int)<S.size:=by omega
   have hix:i<xs.length:=by rw [←HN.out];exact hlt
   obtain ⟨x,hx⟩:∃ x:UInt8,S[i]'hiS=x:=⟨_,rfl⟩
   have hxn:xs.getD i 0=x.toNat:=by rw [←hx];exact (HGET.out i hiS).symm
   have hx256:=x.toNat_lt
   have HACC:Hid (acc++[low x.toNat]=(xs.take (i+1)).map low):=Lib.hid (by rw [hrel.out,get_take _ _ hix,hxn,List.map_append];rfl)
   have HLEN:Hid ((acc++[low x.toNat]).length=n+1):=Lib.hid (by rw [List.length_append,hn];rfl)
   have HOW:Hid (wr.ownsRow w.heap.size 5 1 (.slice a n c') n (u8s acc)):=Lib.hid (by rw [hn];exact hown.out)
   have HBZ:=Lib.hid hbw.out.size
   rw [←hn] at hac ⊢
   have HN2:=Lib.hid hn
   clear hxn hn hown hSN
   by_cases cl:65≤x.toNat∧x.toNat≤90
   ·have hlow:low x.toNat=x.toNat+32:=by unfold low;rw [if_pos cl]
    have c65:(65:Int)≤x.toNat:=by omega
    have c90:(x.toNat:Int)≤90:=by omega
    have hwr:IntKind.u8.wrap ((x.toNat:Int)+32)=((x.toNat+32:Nat):Int):=by rw [IntKind.wrap_u8];omega
    obtain ⟨y,hy⟩:∃ y,y=x.toNat+32:=⟨_,rfl⟩
    rw [←hy] at hwr hlow
    rw [hlow] at HACC HLEN
    clear hy hlow
    go_wp2_with (at_builtin;refine wpList_append_x at22 rfl (.tmp 24) (.tmp 26) rfl w.heap.size (.slice a n c') (.slice (some ⟨wr.heap.size,0,none⟩) 1 1) n 1 (u8s acc) [.int .u8 (y:Nat)] rfl rfl (ownsRow_below HOW.out (lit_below wr _)) (cells_one _ _ _) rfl (by intro u hu;rw [List.mem_singleton] at hu;subst hu;rfl) (by rw [alloc_size];have:=HBZ.out;omega) (by omega) (by omega) ?_;intro a2 c2 w2 hA;have HA:=Lib.hid hA;clear hA)
    have HP:=push_own (y:=y) HN2.out HOW.out hbw.out HA.out
    refine ⟨⟨i+1,a2,c2,acc++[y],by omega,by go_num,by rw [HLEN.out,hac],by rw [HLEN.out];omega,HACC,Lib.hid HP.1,Lib.hid HP.2⟩,?_⟩
    simp [intOf];omega
   ·have hlow:low x.toNat=x.toNat:=by unfold low;rw [if_neg cl]
    rw [hlow] at HACC HLEN
    by_cases c65:65≤x.toNat
    ·have c65I:(65:Int)≤x.toNat:=by omega
     have c90:¬(x.toNat:Int)≤90:=by omega
     clear hlow
     go_wp2_with (at_builtin;refine wpList_append_x at22 rfl (.tmp 24) (.tmp 26) rfl w.heap.size (.slice a n c') (.slice (some ⟨wr.heap.size,0,none⟩) 1 1) n 1 (u8s acc) [.int .u8 (x.toNat:Nat)] rfl rfl (ownsRow_below HOW.out (lit_below wr _)) (cells_one _ _ _) rfl (by intro u hu;rw [List.mem_singleton] at hu;subst hu;rfl) (by rw [alloc_size];have:=HBZ.out;omega) (by omega) (by omega) ?_;intro a2 c2 w2 hA;have HA:=Lib.hid hA;clear hA)
     have HP:=push_own (y:=x.toNat) HN2.out HOW.out hbw.out HA.out
     refine ⟨⟨i+1,a2,c2,acc++[x.toNat],by omega,by go_num,by rw [HLEN.out,hac],by rw [HLEN.out];omega,HACC,Lib.hid HP.1,Lib.hid HP.2⟩,?_⟩
     simp [intOf];omega
    ·have c65I:¬(65:Int)≤x.toNat:=by omega
     clear hlow
     go_wp2_with (at_builtin;refine wpList_append_x at22 rfl (.tmp 24) (.tmp 26) rfl w.heap.size (.slice a n c') (.slice (some ⟨wr.heap.size,0,none⟩) 1 1) n 1 (u8s acc) [.int .u8 (x.toNat:Nat)] rfl rfl (ownsRow_below HOW.out (lit_below wr _)) (cells_one _ _ _) rfl (by intro u hu;rw [List.mem_singleton] at hu;subst hu;rfl) (by rw [alloc_size];have:=HBZ.out;omega) (by omega) (by omega) ?_;intro a2 c2 w2 hA;have HA:=Lib.hid hA;clear hA)
     have HP:=push_own (y:=x.toNat) HN2.out HOW.out hbw.out HA.out
     refine ⟨⟨i+1,a2,c2,acc++[x.toNat],by omega,by go_num,by rw [HLEN.out,hac],by rw [HLEN.out];omega,HACC,Lib.hid HP.1,Lib.hid HP.2⟩,?_⟩
     simp [intOf];omega
  ·obtain rfl:i=N:=by omega
   have HF:Hid (acc=xs.map low):=Lib.hid (by rw [hrel.out,HN.out,List.take_length])
   have hcv:=conv_txt (own_sl hown.out (by rw [HF.out];exact low_bs HBS.out))
   have hiI:¬(i:Int)<S.size:=by omega
   rw [←hn] at hcv ⊢
   obtain ⟨TA,hTA⟩:∃ TA,TA=txt acc:=⟨_,rfl⟩
   rw [←hTA] at hcv
   have HTA:=Lib.hid hTA
   clear hn hSN hTA
   go_wp2
   go_ret
   exact ⟨by rw [←HF.out,HTA.out];rfl,hbw.out⟩
def dR (xs:List Nat) (k e:Nat):Nat:=k+(if e=0 then sk blaP (xs.drop k) else 0)
def nK (c:Nat) (xs:List Nat) (k e:Nat):Nat:=if e=0∧[c] <+: xs.drop k then k+1 else k
def nE (c:Nat) (xs:List Nat) (k e:Nat):Nat:=if e=0∧¬[c] <+: xs.drop k then 22 else e
def qR (q:Nat) (xs:List Nat) (k e:Nat):List Nat × Nat × Nat:=
 ((tr true (unR [q] (xs.drop k) e).1).getD [],k+(unR [q] (xs.drop k) e).2.1,if (tr true (unR [q] (xs.drop k) e).1).isNone=true∧(unR [q] (xs.drop k) e).2.2=0 then 22 else (unR [q] (xs.drop k) e).2.2)
def vR (xs:List Nat) (k e:Nat):List Nat × Nat × Nat:=
 if nE 61 xs (dR xs k e) e=0∧[34] <+: xs.drop (dR xs (nK 61 xs (dR xs k e) e) (nE 61 xs (dR xs k e) e)) then
  qR 34 xs (dR xs (nK 61 xs (dR xs k e) e) (nE 61 xs (dR xs k e) e)+1) 0
 else qR 39 xs (nK 39 xs (dR xs (nK 61 xs (dR xs k e) e) (nE 61 xs (dR xs k e) e)) (nE 61 xs (dR xs k e) e)) (nE 39 xs (dR xs (nK 61 xs (dR xs k e) e) (nE 61 xs (dR xs k e) e)) (nE 61 xs (dR xs k e) e))
theorem tr_nil (b:Bool):tr b []=some []:=rfl
theorem qR_err (q:Nat) (xs:List Nat) (k:Nat) {e:Nat} (he:e≠0):qR q xs k e=([],k,e):=by
 unfold qR unR
 rw [if_neg he,tr_nil]
 simp
theorem vR_err (xs:List Nat) (k:Nat) {e:Nat} (he:e≠0):(vR xs k e).2.2=e:=by
 have h1:∀ c k,nE c xs k e=e:=fun c k=>by unfold nE;rw [if_neg (fun h=>he h.1)]
 unfold vR
 rw [h1,if_neg (fun h=>he h.1),h1,qR_err _ _ _ he]
theorem qR_quP (q:Nat) (xs:List Nat) (k:Nat):match quP q (xs.drop k) with
  | .ok (v,m)=>qR q xs k 0=(v,k+m,0)
  | .error e=>(qR q xs k 0).2.2=e:=by
 unfold qR unR quP upP
 rw [if_pos rfl]
 rcases hi:ix [q] (xs.drop k) with _ | i
 ·simp [tr_nil]
 ·simp only
  rw [tr_plP]
  rcases hp:plP ((xs.drop k).take i) with e | v
  ·have:=plP_err hp
   subst this
   simp
  ·simp
theorem nE_y {c:Nat} {xs:List Nat} {k:Nat} (h:[c] <+: xs.drop k):nE c xs k 0=0:=by unfold nE;rw [if_neg (fun e=>e.2 h)]
theorem nE_n {c:Nat} {xs:List Nat} {k:Nat} (h:¬[c] <+: xs.drop k):nE c xs k 0=22:=by unfold nE;rw [if_pos ⟨rfl,h⟩]
theorem nK_y {c:Nat} {xs:List Nat} {k:Nat} (h:[c] <+: xs.drop k):nK c xs k 0=k+1:=by unfold nK;rw [if_pos ⟨rfl,h⟩]
theorem dR_0 (xs:List Nat) (k:Nat):dR xs k 0=k+sk blaP (xs.drop k):=by unfold dR;rw [if_pos rfl]
theorem vR_vlP (xs:List Nat) (k:Nat):match vlP (xs.drop k) with
  | .ok (v,m)=>vR xs k 0=(v,k+m,0)
  | .error e=>(vR xs k 0).2.2=e:=by
 obtain ⟨a,ha⟩:∃ a,a=k+sk blaP (xs.drop k):=⟨_,rfl⟩
 unfold vlP vR
 simp only [List.drop_drop,dR_0]
 rw [←ha]
 by_cases h1:[61] <+: xs.drop a
 ·rw [if_pos h1,nE_y h1,nK_y h1,dR_0]
  obtain ⟨b,hb⟩:∃ b,b=a+1+sk blaP (xs.drop (a+1)):=⟨_,rfl⟩
  have e1:k+(sk blaP (xs.drop k)+1)=a+1:=by omega
  have e2:k+(sk blaP (xs.drop k)+1+sk blaP (xs.drop (a+1)))=b:=by omega
  have e3:k+(sk blaP (xs.drop k)+1+sk blaP (xs.drop (a+1))+1)=b+1:=by omega
  rw [e1,e2,e3,←hb]
  by_cases h39:[39] <+: xs.drop b
  ·have h34:¬[34] <+: xs.drop b:=fun h=>by
    obtain ⟨t,ht⟩:=pre1.1 h39
    obtain ⟨u,hu⟩:=pre1.1 h
    rw [ht] at hu
    injection hu with hu
    omega
   rw [if_pos h39,if_neg (fun e=>h34 e.2),nK_y h39,nE_y h39]
   have hq:=qR_quP 39 xs (b+1)
   rcases hu:quP 39 (xs.drop (b+1)) with e | ⟨v,m⟩
   ·rw [hu] at hq;exact hq
   ·rw [hu] at hq
    simp only at hq ⊢
    rw [hq]
    congr 2
    omega
  ·rw [if_neg h39]
   by_cases h34:[34] <+: xs.drop b
   ·rw [if_pos h34,if_pos ⟨rfl,h34⟩]
    have hq:=qR_quP 34 xs (b+1)
    rcases hu:quP 34 (xs.drop (b+1)) with e | ⟨v,m⟩
    ·rw [hu] at hq;exact hq
    ·rw [hu] at hq
     simp only at hq ⊢
     rw [hq]
     congr 2
     omega
   ·rw [if_neg h34,if_neg (fun e=>h34 e.2),nE_n h39,qR_err _ _ _ (by decide)]
 ·rw [if_neg h1,nE_n h1,if_neg (fun e=>by cases e.1)]
  rw [show nE 39 xs (dR xs (nK 61 xs a 0) 22) 22=22 by unfold nE;rw [if_neg (fun e=>by cases e.1)],qR_err _ _ _ (by decide)]
theorem vlP_22 {L:List Nat} {e:Nat} (h:vlP L = .error e):e=22:=by
 have hq:∀ q M e,quP q M = .error e→e=22:=fun q M e h=>by
  unfold quP upP at h
  rcases hi:ix [q] M with _ | i
  ·rw [hi] at h;injection h with h;exact h.symm
  ·rw [hi] at h
   simp only at h
   rcases hp:plP (M.take i) with x | v
   ·rw [hp] at h;injection h with h;rw [←h];exact plP_err hp
   ·rw [hp] at h;cases h
 unfold vlP at h
 split at h
 ·split at h
  ·split at h
   ·rename_i e1 h1
    injection h with h;rw [←h];exact hq _ _ _ h1
   ·cases h
  ·split at h
   ·split at h
    ·rename_i e1 h1
     injection h with h;rw [←h];exact hq _ _ _ h1
    ·cases h
   ·injection h with h;exact h.symm
 ·injection h with h;exact h.symm
theorem vlP_bs {L:List Nat} (hb:Bs L) {v:List Nat} {m:Nat} (h:vlP L = .ok (v,m)):Bs v:=by
 have hq:∀ q M v m,Bs M→quP q M = .ok (v,m)→Bs v:=fun q M v m hM h=>by
  unfold quP upP at h
  rcases hi:ix [q] M with _ | i
  ·rw [hi] at h;cases h
  ·rw [hi] at h
   simp only at h
   rcases hp:plP (M.take i) with x | v'
   ·rw [hp] at h;cases h
   ·rw [hp] at h
    injection h with h;injection h with h _
    subst h
    unfold plP at hp
    split at hp
    ·cases hp
    ·split at hp
     ·cases hp
     ·rename_i hv
      injection hp with hp
      subst hp
      exact told_bs _ _ _ (Nat.le_refl _) (flat_bs (hM.take i)) hv
 unfold vlP at h
 split at h
 ·split at h
  ·split at h
   ·cases h
   ·rename_i h1
    injection h with h;injection h with h _
    subst h
    exact hq _ _ _ _ (hb.drop _) h1
  ·split at h
   ·split at h
    ·cases h
    ·rename_i h1
     injection h with h;injection h with h _
     subst h
     exact hq _ _ _ _ (hb.drop _) h1
   ·cases h
 ·cases h
theorem ra_round {RES:Except Nat (List At × Nat)} {xs:List Nat} {acc:List At} {k k1 n n2 e2 kU eV e9 e10:Nat} {S V:List Nat} (hb:Bs xs) (hk:k≤k1) (hk1:k1≤xs.length)
  (hst:RES=match raA acc (xs.drop k1) with
   | .error e => .error e
   | .ok (l,m) => .ok (l,k1-k+m)) (hns:¬stopA (xs.drop k1)) (hn:n=sk blaP (xs.drop k1)) (hN:nmR (xs.drop (k1+n)) 0=(S,n2,e2)) (hV:vR xs (k1+n+n2) e2=(V,kU,eV))
  (h9:e9=if eV=0∧S∈acc.map Prod.fst then 22 else eV) (h10:e10=if e9=0∧256<acc.length+1 then 14 else e9) :
  (e10=0→(RES=match raA (acc++[(S,V)]) (xs.drop kU) with
   | .error e => .error e
   | .ok (l,m) => .ok (l,kU-k+m))∧k1<kU∧kU≤xs.length∧Bs S∧Bs V∧acc.length+1≤256)∧(e10≠0→RES = .error e10):=by
 rw [raA_step acc (hb.drop k1),if_neg hns,←hn,List.drop_drop] at hst
 rcases hq:qnP (xs.drop (k1+n)) with e | i
 ·have he:e2=22:=by have:=nmR_err hq;rw [hN] at this;exact this
  have hv:eV=22:=by have:=vR_err xs (k1+n+n2) (e:=e2) (by omega);rw [hV] at this;rw [←he];exact this
  have hon:onP (xs.drop (k1+n)) = .error 22:=by unfold onP;rw [hq,qnP_22 hq]
  rw [hon] at hst
  have h1:e9=22:=by rw [h9,if_neg (by rintro ⟨h,_⟩;omega),hv]
  have h2:e10=22:=by rw [h10,if_neg (by rintro ⟨h,_⟩;omega),h1]
  exact ⟨fun h=>by omega,fun _=>by rw [hst,h2]⟩
 ·have hnm:=nmR_ok hq
  rw [hN] at hnm
  injection hnm with h3 h4
  injection h4 with h4 h5
  subst h5
  subst h4
  have hi:=qnP_ok (hb.drop (k1+n)) hq
  rw [List.length_drop] at hi
  have hvl:=vR_vlP xs (k1+n+n2)
  rw [hV] at hvl
  rcases hx:vlP (xs.drop (k1+n+n2)) with e | ⟨v,m⟩
  ·rw [hx] at hvl
   have he:=vlP_22 hx
   subst he
   simp only at hvl
   have hon:onP (xs.drop (k1+n)) = .error 22:=by unfold onP;rw [hq];simp only;rw [List.drop_drop,hx]
   rw [hon] at hst
   have h1:e9=22:=by rw [h9,if_neg (by rintro ⟨h,_⟩;omega),hvl]
   have h2:e10=22:=by rw [h10,if_neg (by rintro ⟨h,_⟩;omega),h1]
   exact ⟨fun h=>by omega,fun _=>by rw [hst,h2]⟩
  ·have hbv:=vlP_bs (hb.drop _) hx
   have hvl2:=vlP_ok hx
   rw [List.length_drop] at hvl2
   rw [hx] at hvl
   simp only at hvl
   injection hvl with h6 h7
   injection h7 with h7 h8
   have hon:onP (xs.drop (k1+n)) = .ok ((S,V),n2+m):=by unfold onP;rw [hq];simp only;rw [List.drop_drop,hx,←h3,h6]
   rw [hon] at hst
   simp only at hst
   by_cases hd:S∈acc.map Prod.fst
   ·rw [if_pos hd] at hst
    have h1:e9=22:=by rw [h9,if_pos ⟨h8,hd⟩]
    have h2:e10=22:=by rw [h10,if_neg (by rintro ⟨h,_⟩;omega),h1]
    exact ⟨fun h=>by omega,fun _=>by rw [hst,h2]⟩
   ·rw [if_neg hd] at hst
    have h1:e9=0:=by rw [h9,if_neg (fun h=>hd h.2),h8]
    by_cases hl:256<acc.length+1
    ·rw [if_pos hl] at hst
     have h2:e10=14:=by rw [h10,if_pos ⟨h1,hl⟩]
     exact ⟨fun h=>by omega,fun _=>by rw [hst,h2]⟩
    ·rw [if_neg hl] at hst
     have h2:e10=0:=by rw [h10,if_neg (fun h=>hl h.2),h1]
     refine ⟨fun _=>⟨?_,by omega,by omega,by rw [h3];exact (hb.drop _).take _,by rw [h6];exact hbv,by omega⟩,fun h=>by omega⟩
     rw [hst,List.drop_drop,show k1+(n+(n2+m))=kU by omega]
     rcases raA (acc++[(S,V)]) (xs.drop kU) with e | ⟨l,j⟩
     ·rfl
     ·simp only
      congr 2
      omega
end
end Go.Proofs.YtbogfailbgbdoaaGreatDoor.K
namespace Go.Proofs.YtbogfailbgbdoaaGreatDoor
set_option maxRecDepth 100000
def siany_ren:Go.Shelf.Ren:=⟨fun | 153=>55 | 152=>79 | 226=>80 | 227=>81 | 228=>82 | 137=>105 | 119=>106 | 224=>107 | 225=>108 | 217=>109 | 266=>127 | n=>n,fun | 9=>9 | 3=>3 | 4=>4 | 5=>5 | 21=>21 | 117=>107 | 116=>106 | 0=>0 | 46=>126 | 124=>127 | n=>n,fun | n=>n⟩
theorem siany:Go.Proofs.Lays.n153 Tryz.prog siany_ren:={
 mixed:=by kernel_rfl,
 f119:=Tryz.func106.trans (congrArg some (by kernel_rfl)),
 f137:=Tryz.func105.trans (congrArg some (by kernel_rfl)),
 f152:=Tryz.func79.trans (congrArg some (by kernel_rfl)),
 f153:=Tryz.func55.trans (congrArg some (by kernel_rfl)),
 f217:=Tryz.func109.trans (congrArg some (by kernel_rfl)),
 f224:=Tryz.func107.trans (congrArg some (by kernel_rfl)),
 f225:=Tryz.func108.trans (congrArg some (by kernel_rfl)),
 f226:=Tryz.func80.trans (congrArg some (by kernel_rfl)),
 f227:=Tryz.func81.trans (congrArg some (by kernel_rfl)),
 f228:=Tryz.func82.trans (congrArg some (by kernel_rfl)),
 f266:=Tryz.func127.trans (congrArg some (by kernel_rfl)),
 t0:=Tryz.underlying0,
 a0:=Tryz.isAgg0,
 z0:=Tryz.sizeOf0,
 v0:=Tryz.zeroValue0,
 t3:=Tryz.underlying3,
 a3:=Tryz.isAgg3,
 z3:=Tryz.sizeOf3,
 v3:=Tryz.zeroValue3,
 t4:=Tryz.underlying4,
 a4:=Tryz.isAgg4,
 z4:=Tryz.sizeOf4,
 v4:=Tryz.zeroValue4,
 t5:=Tryz.underlying5,
 a5:=Tryz.isAgg5,
 z5:=Tryz.sizeOf5,
 v5:=Tryz.zeroValue5,
 t9:=Tryz.underlying9,
 a9:=Tryz.isAgg9,
 z9:=Tryz.sizeOf9,
 v9:=Tryz.zeroValue9,
 t21:=Tryz.underlying21,
 a21:=Tryz.isAgg21,
 z21:=Tryz.sizeOf21,
 v21:=Tryz.zeroValue21,
 t46:=Tryz.underlying126,
 a46:=Tryz.isAgg126,
 z46:=Tryz.sizeOf126,
 v46:=Tryz.zeroValue126,
 t116:=Tryz.underlying106,
 a116:=Tryz.isAgg106,
 z116:=Tryz.sizeOf106,
 t117:=Tryz.underlying107,
 a117:=Tryz.isAgg107,
 z117:=Tryz.sizeOf107,
 v117:=Tryz.zeroValue107,
 t124:=Tryz.underlying127,
 a124:=Tryz.isAgg127,
 z124:=Tryz.sizeOf127,
 v124:=Tryz.zeroValue127 }
end Go.Proofs.YtbogfailbgbdoaaGreatDoor
