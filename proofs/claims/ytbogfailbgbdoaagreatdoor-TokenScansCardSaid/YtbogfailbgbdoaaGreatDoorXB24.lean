/- Part 24. -/
import Derived.ChangeMaps5
import Derived.ChangeOld
import Derived.Deep.Slices
import Derived.HandedShaped
import Derived.LaidMore
import Derived.Lay
import Derived.Lib.LaidTab
import Derived.Lib.SmallJoins
import Derived.OpenShut
import Derived.ProofKit
import Derived.SevenTiedAt
import Derived.Shelf.Vars
import Derived.ShutString
import Derived.SizedLaws
import Derived.Stop.Joined
import Derived.Stop.LaidErr
import Derived.Test.YtbogfailbgbdoaaGreatDoorCards
import Derived.Test.YtbogfailbgbdoaaGreatDoorTie
import Derived.Test.YtbogfailbgbdoaaGreatDoorXB23
set_option linter.unusedVariables false
set_option linter.unusedSimpArgs false
namespace Go.Proofs.YtbogfailbgbdoaaGreatDoor.K
set_option maxRecDepth 100000
section
open Go.RowKit Go.Proofs.YtbogfailbgbdoaaGreatDoor U
set_option maxHeartbeats 12800000 in
theorem rscan_any (ao:Option Addr) (c:Nat) (s:List Nat) (w:World) (h:Sl w ao c s) (hm:s.length≤700000) :
  Calls Tryz.prog 11 #[.slice ao s.length c] w (RScTo (scP s) w):=by
 have HS:=Lib.hid h
 have hsl0:=strip_len s
 go_enter Tryz.func11,Tryz.ntmps11
 obtain ⟨BM,hBM⟩:∃ BM,BM=decide (s.take 3=[239,187,191]):=⟨_,rfl⟩
 have HBM:=Lib.hid hBM
 clear hBM
 go_upto_region 1 with fail
 go_cut [30] from 10 to 30 (fun s30 wx=>s30 = .bool BM∧wx=w)
 case first=>
  by_cases h3:3≤s.length
  ·rcases h.src with h0 | ⟨g,off,rfl,hcell⟩
   ·rw [h0] at h3;simp at h3
   have c0:=hcell 0 (by omega)
   have c1:=hcell 1 (by omega)
   have c2:=hcell 2 (by omega)
   rw [Nat.add_zero] at c0
   have h3I:(3:Int)≤s.length:=by omega
   have HTK:Hid (s.take 3=[s.getD 0 0,s.getD 1 0,s.getD 2 0]):=Lib.hid (by
    match s,h3 with
    | x::y::z::r,_=>rfl)
   obtain ⟨x,hx⟩:∃ x,s.getD 0 0=x:=⟨_,rfl⟩
   obtain ⟨y,hy⟩:∃ y,s.getD 1 0=y:=⟨_,rfl⟩
   obtain ⟨z,hz⟩:∃ z,s.getD 2 0=z:=⟨_,rfl⟩
   rw [hx] at c0
   rw [hy] at c1
   rw [hz] at c2
   have HB2:Hid (BM=decide (x=239∧y=187∧z=191)):=Lib.hid (by rw [HBM.out,HTK.out,hx,hy,hz];simp)
   clear hx hy hz hcell
   by_cases e0:x=239
   ·rw [e0] at c0
    by_cases e1:y=187
    ·rw [e1] at c1
     by_cases e2:z=191
     ·rw [e2] at c2
      have HB3:Hid (BM=true):=Lib.hid (by rw [HB2.out];exact decide_eq_true ⟨e0,e1,e2⟩)
      clear e0 e1 e2
      go_wp2
      go_meet
      case rel=>exact ⟨by rw [HB3.out],rfl⟩
     ·have b2:((z:Int) == 191)=false:=beq_eq_false_iff_ne.2 (by omega)
      have HB3:Hid (BM=false):=Lib.hid (by rw [HB2.out];exact decide_eq_false (fun e=>e2 e.2.2))
      clear e0 e1
      go_wp2
      go_meet
      case rel=>exact ⟨by rw [HB3.out],rfl⟩
    ·have b1:((y:Int) == 187)=false:=beq_eq_false_iff_ne.2 (by omega)
     have HB3:Hid (BM=false):=Lib.hid (by rw [HB2.out];exact decide_eq_false (fun e=>e1 e.2.1))
     clear e0
     go_wp2
     go_meet
     case rel=>exact ⟨by rw [HB3.out],rfl⟩
   ·have b0:((x:Int) == 239)=false:=beq_eq_false_iff_ne.2 (by omega)
    have HB3:Hid (BM=false):=Lib.hid (by rw [HB2.out];exact decide_eq_false (fun e=>e0 e.1))
    go_wp2
    go_meet
    case rel=>exact ⟨by rw [HB3.out],rfl⟩
  ·have h3I:¬(3:Int)≤s.length:=by omega
   have HB3:Hid (BM=false):=Lib.hid (by
    rw [HBM.out]
    refine decide_eq_false fun e=>?_
    have:=congrArg List.length e
    rw [List.length_take] at this
    simp at this
    omega)
   go_wp2
   go_meet
   case rel=>exact ⟨by rw [HB3.out],rfl⟩
 case rest=>
 obtain ⟨rfl,hwc⟩:=hcut
 have hwc:=hwc.symm
 subst hwc
 go_upto_if 30 with fail
 go_cut [0] from 30 to 32 (fun s0 wx=>(∃ (a:Option Addr) (c':Nat),s0 = .slice a (stripP s).length c'∧Hid (Sl w a c' (stripP s)))∧wx=w)
 case first=>
  cases hb:BM
  ·have HSP:Hid (stripP s=s):=Lib.hid (by
    unfold stripP
    rw [if_neg]
    have:=HBM.out
    rw [hb] at this
    exact of_decide_eq_false this.symm)
   go_wp2
   go_meet
   case rel=>exact ⟨⟨_,_,by rw [HSP.out],Lib.hid (by rw [HSP.out];exact HS.out)⟩,rfl⟩
  ·have h3t:s.take 3=[239,187,191]:=by
    have:=HBM.out
    rw [hb] at this
    exact of_decide_eq_true this.symm
   have h3:3≤s.length:=by
    have:=congrArg List.length h3t
    rw [List.length_take] at this
    simp at this
    omega
   have HSP:Hid (stripP s=s.drop 3):=Lib.hid (by unfold stripP;rw [if_pos h3t])
   have hsl:∀ W,(Instr.slice 22 (.slice ao s.length c) (some (.int .i64 3)) none none).run Tryz.prog W = .ok (.slice (cutA ao c 3) (s.length-3) (c-3)) W:=fun W=>slice_l ao s.length c 3 h3 W
   have HF:=Lib.hid (h.from_ 3 h3)
   clear h3t
   go_wp2
   go_meet
   case rel=>exact ⟨⟨_,_,by rw [HSP.out,List.length_drop],Lib.hid (by rw [HSP.out];exact HF.out)⟩,rfl⟩
 case rest=>
  obtain ⟨⟨a0,c0,rfl,S0⟩,hwc⟩:=hcut
  have hwc:=hwc.symm
  subst hwc
  obtain ⟨RES,hRES⟩:∃ RES,RES=scP s:=⟨_,rfl⟩
  have HRES:=Lib.hid hRES
  unfold scP at hRES
  clear h HS
  obtain ⟨ST,hST⟩:∃ ST,ST=stripP s:=⟨_,rfl⟩
  rw [←hST] at S0 hRES hsl0
  have K2:=Lib.hid (rCheck_any a0 c0 ST w S0.out (by omega))
  have K3:=Lib.hid fun (W:World) (hW:Below w.heap.size w W)=>rLines_any a0 c0 ST W (S0.out.below hW) (by omega)
  have hll:=lin_len ST
  obtain ⟨n1,hn1⟩:∃ n1,n1=ST.length:=⟨_,rfl⟩
  have HSTR:=Lib.hid hST
  have HN1:=Lib.hid hn1
  rw [←hST,←hn1]
  rw [←hn1] at K2 K3
  rcases hal:al charP ST 0 with _ | kx
  ·have ha:alA charP ST=(0,true):=by unfold alA;rw [hal];rfl
   rw [ha] at K2
   rw [hal] at hRES
   simp only at hRES
   obtain ⟨LN,hLN⟩:∃ LN,LN=lin false ST:=⟨_,rfl⟩
   rw [←hLN] at K3 hRES hll
   obtain ⟨n2,hn2⟩:∃ n2,n2=LN.length:=⟨_,rfl⟩
   have HN2:=Lib.hid hn2
   have hl7:LN.length≤700000:=by omega
   obtain ⟨TX,hTX⟩:∃ TX,TX=txt LN:=⟨_,rfl⟩
   have HTX:=Lib.hid hTX
   have hz:TX.size=n2:=by rw [hTX,txt_size,hn2]
   have HCV:Hid (∀ W a c,Sl W a c LN→(convert 22 9 (.slice a n2 c)).run Tryz.prog W = .ok (.string TX) W):=Lib.hid fun W a c hs=>by
    have:=conv_txt hs
    rw [hn2,hTX];exact this
   have hbLN:Bs LN:=by rw [hLN];exact lin_bs S0.out.bs
   have HBL:=Lib.hid hbLN
   unfold SlTo at K3
   rw [←hn2] at K3
   have HR:Hid (RES=tsP LN):=Lib.hid hRES
   clear hRES ha hal hll hLN hn1 hn2 hTX hST hsl0 hbLN
   go_wp2_with (first
    | (go_at_call 16;(with_reducible refine K2.out.mono ?_);rintro e w2 ⟨rfl,hb2⟩;have B2:=Lib.hid hb2;clear hb2)
    | (go_at_call 24;(with_reducible refine (K3.out w2 B2.out).mono ?_);rintro e w3 ⟨a3,c3,rfl,hs3,hb3⟩;have S3:=Lib.hid hs3;have B3:=Lib.hid (B2.out.trans (hb3.mono B2.out.size));have hcv:=HCV.out w3 a3 c3 hs3;clear hs3 hb3))
   obtain ⟨p,hp⟩:∃ p,p=w3.heap.size:=⟨_,rfl⟩
   obtain ⟨W0,hW0⟩:∃ W,W=(w3.alloc (.cells #[.string TX,.int .i64 0,.int .i64 0,.int .i64 0,.int .i64 0] 55)).alloc (.cells #[] 58):=⟨_,rfl⟩
   rw [←hW0]
   have HSC:Hid (RSc RES w W0 p LN 0 (.slice (some ⟨p+1,0,none⟩) 0 0) []):=Lib.hid (by
    have a1:=lit_below w3 (.cells #[.string TX,.int .i64 0,.int .i64 0,.int .i64 0,.int .i64 0] 55)
    have a2:=lit_below (w3.alloc (.cells #[.string TX,.int .i64 0,.int .i64 0,.int .i64 0,.int .i64 0] 55)) (.cells #[] 58)
    have ho:=own_empty (w3.alloc (.cells #[.string TX,.int .i64 0,.int .i64 0,.int .i64 0,.int .i64 0] 55)) 58 6
    rw [alloc_size,←hp] at ho
    have hb:=(Blk.made w3 55 #[.string TX,.int .i64 0,.int .i64 0,.int .i64 0,.int .i64 0]).below a2
    rw [←hp,←hW0] at hb
    rw [HTX.out] at hb
    rw [←hW0] at ho
    refine ⟨?_,⟨0,0,hb,HBL.out,Nat.zero_le _,by omega⟩,⟨ho,fun x hx=>by cases hx⟩,by rw [hp];exact B3.out.size,Nat.le_refl _,?_⟩
    ·have b4:=B3.out.trans (a1.mono B3.out.size)
     rw [hW0]
     exact b4.trans (a2.mono b4.size)
    ·rw [HR.out,List.drop_zero]
     show tsA 0 LN=_
     rcases tsA 0 LN with e | l <;> rfl)
   rw [←hp]
   clear hW0 hp hcv
   go_loopg [8,9] n2 (fun gh s8 _ wr=>∃ (k:Nat) (m:List Tkm) (a:Option Addr) (cc:Nat),s8 = .slice a m.length cc∧Hid (RSc RES w wr p LN k (.slice a m.length cc) m)∧n2-k≤gh∧k≤n2)
   case atStart=>exact ⟨0,[],_,0,rfl,HSC,by omega,Nat.zero_le _⟩
   case round=>
    clear HSC
    obtain ⟨k,m,a,cc,rfl,hst,hgh,hk⟩:=hrel
    have HST:=hst
    obtain ⟨fr,pl,hrp⟩:=hst.out.rp
    have HRP:=Lib.hid hrp
    have c0:=hrp.c0
    rw [←HTX.out] at c0
    have c1:=hrp.c1
    have hml:=hst.out.len
    clear hst hrp
    by_cases hkl:k<n2
    ·have hkI:(k:Int)<TX.size:=by omega
     have hkS:k<TX.size:=by omega
     go_upto_region 8 with fail
     go_quiet (fail)
     have HD:Hid (Below wr.heap.size wr (wr.drewN nq)):=Lib.hid (below_drewN (Below.refl _ wr) nq)
     have K:=rtoken_any (wr.drewN nq) p LN k fr pl (HRP.out.drew nq) hl7
     obtain ⟨w1,hw1⟩:∃ W,W=wr.drewN nq:=⟨_,rfl⟩
     rw [←hw1] at K HD
     have HP1:Hid (p+1≤w1.heap.size):=Lib.hid (by have:=HRP.out.blk.lt;have:=HD.out.size;omega)
     have hne:LN.drop k≠[]:=fun e=>by
      have h0:(LN.drop k).length=0:=by rw [e];rfl
      rw [List.length_drop] at h0
      have:=HN2.out
      omega
     have hst:=HST.out.st
     rw [tsA_step k (HBL.out.drop k) hne] at hst
     unfold RkTo at K
     rcases hr:tkP (k == 0) (LN.drop k) with er | ⟨t,n⟩
     ·rw [hr] at K hst
      simp only at K hst
      have HRR:Hid (RES = .error (k,er)):=Lib.hid hst
      have hez:=(tk_ez _ _).of hr
      have heI:((er:Int) != 0)=true:=bne_iff_ne.2 (by omega)
      have heI2:¬(er:Int)=0:=by omega
      have K:=Lib.hid K
      clear hst hr hne c0 c1
      go_wp2_with (go_at_call 25;rw [←hw1];clear hw1;(with_reducible refine K.out.mono ?_);rintro e w2 ⟨ht2,⟨i0,s1,s2,x3,x4,x5,x6,i5,rfl⟩,hx0,k2,pl2,hp2,hpl2⟩;have hp3:=hp2.below (lit_below w2 (.cells #[.int .i64 i0,.string s1,.string s2,.slice x3 x4 x5,.bool x6,.int .i64 i5] 58));rw [hpl2 hx0] at hp3;have z3:=hp3.c3;have z4:=hp3.c4;have T2:=Lib.hid ht2;clear ht2 hp2 hpl2 hp3)
      have B2:Hid (Below w.heap.size w w2):=Lib.hid (by
       have b1:=HST.out.bel.trans (HD.out.mono HST.out.bel.size)
       have hpw:=HST.out.ge
       exact b1.trans (T2.out.below b1.size (fun i hi=>by omega)))
      go_upto_region 11 with fail
      go_quiet (fail)
      go_wp2
      go_ret3
      rw [←HRES.out,HRR.out]
      refine ⟨?_,rfl⟩
      have b3:=B2.out.trans ((lit_below w2 (.cells #[.int .i64 i0,.string s1,.string s2,.slice x3 x4 x5,.bool x6,.int .i64 i5] 58)).mono B2.out.size)
      exact below_drewN b3 _
     ·rw [hr] at K hst
      simp only at K
      obtain ⟨hn1,hn2⟩:=tkP_ok (HBL.out.drop k) hne hr
      rw [List.length_drop] at hn2
      have HNL:Hid (k+n≤n2):=Lib.hid (by have:=HN2.out;omega)
      have K:=Lib.hid K
      have HSTN:=Lib.hid hst
      have hmN:m.length≤700000:=by have:=HN2.out;omega
      clear hst hr hne c0 c1 hn2
      go_wp2_with (first
       | (go_at_call 25;rw [←hw1];clear hw1;(with_reducible refine K.out.mono ?_);rintro e w2 ⟨ht2,sv,rfl,⟨sa,sc,rfl,hown2⟩,hs2,hl2⟩;have T2:=Lib.hid ht2;have Q2:=Lib.hid hs2;have A2:=Lib.hid (show RAtV w2 w1.heap.size (.slice sa t.a.length sc) t.a from ⟨sa,sc,rfl,hown2⟩);have z3:=(hs2.below (lit_below w2 (.cells #[.int .i64 (t.k:Nat),.string (txt t.n),.string (txt t.t),.slice sa t.a.length sc,.bool t.e,.int .i64 (k:Nat)] 58))).c3;have hp2:p+1≤w2.heap.size:=by { have:=ht2.size;have:=HP1.out;omega };have B24:=Lib.hid ((lit_below w2 (.cells #[.int .i64 (t.k:Nat),.string (txt t.n),.string (txt t.t),.slice sa t.a.length sc,.bool t.e,.int .i64 (k:Nat)] 58)).trans ((lit_below (w2.alloc (.cells #[.int .i64 (t.k:Nat),.string (txt t.n),.string (txt t.t),.slice sa t.a.length sc,.bool t.e,.int .i64 (k:Nat)] 58)) (.cells #[.int .i64 (t.k:Nat),.string (txt t.n),.string (txt t.t),.slice sa t.a.length sc,.bool t.e,.int .i64 (k:Nat)] 58)).mono (by rw [alloc_size];omega)));have HOA:=Lib.hid ((((HST.out.tks.below HD.out).touch ht2 (fun i hi=>by omega)).below B24.out).own);clear ht2 hs2 hown2)
       | (at_builtin;(refine wpList_append_x at29 rfl (.tmp 72) (.tmp 74) rfl (p+1) (.slice a m.length cc) (.slice (some ⟨w2.heap.size+1,0,none⟩) 1 1) m.length 1 (tkcs m) (tkv ((t,k),.slice sa t.a.length sc)) rfl rfl HOA.out (by have:=cells_six (w2.alloc (.cells #[.int .i64 (t.k:Nat),.string (txt t.n),.string (txt t.t),.slice sa t.a.length sc,.bool t.e,.int .i64 (k:Nat)] 58)) 58 (.int .i64 (t.k:Nat)) (.string (txt t.n)) (.string (txt t.t)) (.slice sa t.a.length sc) (.bool t.e) (.int .i64 (k:Nat));rw [alloc_size] at this;exact this) rfl (by intro u hu;simp [tkv] at hu;rcases hu with rfl | rfl | rfl | rfl | rfl | rfl <;> rfl) (by rw [alloc_size,alloc_size];omega) (by omega) (by omega) ?_);intro a2 c2 w5 hA;have HX:=Lib.hid (HST.out.next HD.out T2.out Q2.out A2.out hl2 HSTN.out hn1 B24.out hA);clear hA))
      have hnl:=HNL.out
      go_roundg (n2-(k+n))
      case measure=>omega
      case rel=>exact ⟨k+n,m++[((t,k),.slice sa t.a.length sc)],a2,c2,by rw [List.length_append,List.length_singleton],by rw [List.length_append,List.length_singleton];exact HX,Nat.le_refl _,hnl⟩
    ·have hkI:¬(k:Int)<TX.size:=by omega
     have hkS:¬k<TX.size:=by omega
     have hke:k=LN.length:=by have:=HN2.out;omega
     have hst:=HST.out.st
     rw [hke,List.drop_length,tsA_nil] at hst
     have HRR:Hid (RES = .ok (m.map Prod.fst)):=Lib.hid (by rw [hst];simp)
     clear hst hke
     go_upto_region 8 with fail
     go_quiet (fail)
     go_wp2
     go_ret3
     rw [←HRES.out,HRR.out]
     exact ⟨below_drewN HST.out.bel _,a,m.length,cc,m,rfl,rfl,(HST.out.tks.below (below_drewN (Below.refl _ wr) _)).mono (by have:=HST.out.ge;omega)⟩
  ·have ha:alA charP ST=(kx,false):=by unfold alA;rw [hal];rfl
   rw [ha] at K2
   rw [hal] at hRES
   simp only at hRES
   have HR:Hid (RES = .error (kx,22)):=Lib.hid hRES
   clear hRES ha hal hll hST hsl0 K3 hn1
   go_wp2_with (go_at_call 16;(with_reducible refine K2.out.mono ?_);rintro e w2 ⟨rfl,hb2⟩;have B2:=Lib.hid hb2;clear hb2)
   go_ret3
   rw [←HRES.out,HR.out]
   exact ⟨B2.out,rfl⟩
end
section
open Go.ChangeShapes Go.WideShapes Go.ChangeAt Go.RowKit Go.ChangeMaps
theorem own:ownKnob Tryz.prog.godebug=none:=by kernel_rfl
theorem laidOut:laidOutB Tryz.prog=true:=by kernel_rfl
abbrev laidT:List (String × DataW Unit):=[("math/bits.deBruijn32tab",Rows.laid_math_bits_deBruijn32tab),("math/bits.deBruijn64tab",Rows.laid_math_bits_deBruijn64tab),("internal/strconv.uint64pow10",Rows.laid_internal_strconv_uint64pow10),("unicode/utf8.acceptRanges",Rows.laid_unicode_utf8_acceptRanges),("strconv.ErrRange",Rows.laid_strconv_ErrRange),("strconv.ErrSyntax",Rows.laid_strconv_ErrSyntax),("unicode.asciiFold",Rows.laid_unicode_asciiFold),("unicode.caseOrbit",Rows.laid_unicode_caseOrbit),("unicode.CaseRanges",Rows.laid_unicode_CaseRanges),("unicode/utf8.first",Rows.laid_unicode_utf8_first)]
theorem laid_rows:Rows.tokenPlacesRow.laid=laidT:=by rfl
theorem utf_first:Rows.laid_unicode_utf8_first=Lib.firstData:=by rfl
theorem utf_accept:(Rows.laid_unicode_utf8_acceptRanges:DataW Unit)=Lib.acceptData:=by rfl
def foldZ:List Int:=(List.range 128).map fun c=>if c=75 then 107 else if c=107 then 8490 else if c=115 then 383 else ((fold1 c:Nat):Int)
theorem fold_data:(Rows.laid_unicode_asciiFold:DataW Unit)=Lib.tabData .u16 foldZ:=by rfl
theorem fold_at (c:Nat) (h:c<107∨(c<123∧108≤c∧c≠115)):foldZ[c]? = some ((fold1 c:Nat):Int):=by
 have:∀ c<123,(c<107∨(c<123∧108≤c∧c≠115))→foldZ[c]? = some ((fold1 c:Nat):Int):=by decide +kernel
 exact this c (by omega) h
theorem utf_tabs {w:World} (h3:Lib.VarReads Tryz.prog w "unicode/utf8.first" Lib.firstData) (h4:Lib.VarReads Tryz.prog w "unicode/utf8.acceptRanges" Lib.acceptData):Lib.Utf8Tabs 1 2 w:=by
 refine ⟨fun c hc=>?_,fun i hi=>?_⟩
 ·obtain ⟨g,t,cs,fuel,p,hg,hty,hvar,hd⟩:=h3
  obtain rfl:=Option.some.inj ((show Tryz.prog.globalNamed "unicode/utf8.first" = some 1 by kernel_rfl).symm.trans hg)
  obtain rfl:=Option.some.inj ((show (Tryz.prog.globals[1]?).map (·.type)=some 146 by kernel_rfl).symm.trans hty)
  have hcs:=Lib.cells_of_tab Tryz.underlying146 Tryz.underlying5 (by kernel_rfl) (by kernel_rfl) hd
  rw [World.var?_cell hg hvar c,←Array.getElem?_toList,hcs]
  simp [Lib.firstTab,hc]
 ·obtain ⟨g,t,cs,fuel,p,hg,hty,hvar,hd⟩:=h4
  obtain rfl:=Option.some.inj ((show Tryz.prog.globalNamed "unicode/utf8.acceptRanges" = some 2 by kernel_rfl).symm.trans hg)
  obtain rfl:=Option.some.inj ((show (Tryz.prog.globals[2]?).map (·.type)=some 149 by kernel_rfl).symm.trans hty)
  obtain ⟨fuel',d,q,hdi,he⟩:=Lib.array_elem Tryz.underlying149 hd i hi
  simp only [List.getElem?_map,List.getElem?_range hi,Option.map_some,Option.some.injEq] at hdi
  subst hdi
  have c148:Tryz.prog.cellsOf 148=2:=by kernel_rfl
  rw [c148] at he
  have hcs:=Lib.ints_of_struct Tryz.underlying148 (fun j f hj=>by
   match j,hj with
   | 0,hj=>simp at hj;subst hj;exact ⟨Tryz.underlying5,rfl,by kernel_rfl⟩
   | 1,hj=>simp at hj;subst hj;exact ⟨Tryz.underlying5,rfl,by kernel_rfl⟩
   | j+2,hj=>simp at hj) (by rw [c148];rfl) he
  have e0:=congrArg (·[0]?) hcs
  have e1:=congrArg (·[1]?) hcs
  simp only [List.getElem?_take,List.getElem?_drop] at e0 e1
  constructor
  ·rw [World.var?_cell hg hvar (2*i),←Array.getElem?_toList]
   simpa [Nat.mul_comm] using e0
  ·rw [World.var?_cell hg hvar (2*i+1),←Array.getElem?_toList]
   simpa [Nat.mul_comm] using e1
theorem fold_tab {w:World} (h3:Lib.VarReads Tryz.prog w "unicode.asciiFold" (Lib.tabData .u16 foldZ)):∀ c,c<107∨(c<123∧108≤c∧c≠115)→w.cell? ⟨3,c,none⟩=some (.int .u16 (fold1 c:Nat)):=fun c hc=>by
 obtain ⟨g,t,cs,fuel,p,hg,hty,hvar,hd⟩:=h3
 obtain rfl:=Option.some.inj ((show Tryz.prog.globalNamed "unicode.asciiFold" = some 3 by kernel_rfl).symm.trans hg)
 obtain rfl:=Option.some.inj ((show (Tryz.prog.globals[3]?).map (·.type)=some 155 by kernel_rfl).symm.trans hty)
 have hcs:=Lib.cells_of_tab Tryz.underlying155 Tryz.underlying154 (by kernel_rfl) (by kernel_rfl) hd
 rw [World.var?_cell hg hvar c,←Array.getElem?_toList,hcs,List.getElem?_map,fold_at c hc]
 rfl
theorem star:("*errors.errorString" : String) = "*" ++ "errors.errorString" := by kernel_rfl
theorem row177:∀ u,Tryz.prog.typeName? 3 u=some "*errors.errorString" → u=177:=fun u h=>
 typeName_ptr_named (nm := "errors.errorString") (by rw [←star];kernel_rfl) (by kernel_rfl) (by decide) u (by rw [←star];exact h)
theorem tt_of {W:World} (h:laidMetH Tryz.prog laidT W) (hs:W.ShapedOpen Tryz.prog):TT W:=by
 rw [MakeChecks.laidMetH_plain _ _ _ (by kernel_rfl)] at h
 refine ⟨⟨utf_tabs ?_ ?_,?_⟩,?_,?_⟩
 ·have:=Lib.laidMet.reads h (n := "unicode/utf8.first") (d:=Rows.laid_unicode_utf8_first) (by simp)
  rwa [utf_first] at this
 ·have:=Lib.laidMet.reads h (n := "unicode/utf8.acceptRanges") (d:=Rows.laid_unicode_utf8_acceptRanges) (by simp)
  rwa [utf_accept] at this
 ·exact Go.Proofs.cell_of_shapedOpen_int (zero := #[.int .i64 0]) (t:=3) hs (of_decide_eq_true (by kernel_rfl)) (by kernel_rfl) rfl (by kernel_rfl) (by kernel_rfl) Tryz.underlying3
 ·have:=Lib.laidMet.reads h (n := "unicode.asciiFold") (d:=Rows.laid_unicode_asciiFold) (by simp)
  rw [fold_data] at this
  exact fold_tab this
 ·obtain ⟨a0,s0,hv0,_,_,_⟩:=laid_sentinel (tp:=177) (te:=179) (ts:=9) h.tail.tail.tail.tail.tail (show Tryz.prog.globalNamed "strconv.ErrSyntax" = some 6 by kernel_rfl) (show (Tryz.prog.globals[6]?).map (·.type)=some 71 by kernel_rfl) Tryz.underlying71 row177 Tryz.underlying177 Tryz.underlying179 rfl rfl Tryz.underlying9 (by kernel_rfl) (by kernel_rfl)
  have hc:=World.var?_cell (show Tryz.prog.globalNamed "strconv.ErrSyntax" = some 6 by kernel_rfl) hv0 0
  exact ⟨_,hc.trans rfl,.inr ⟨_,_,rfl⟩⟩
theorem handed {H:Type} {enc:TypeId × Value→H} {a:Assume} {C:Checked} {os:Os} {f:FuncId} {fn:Func} {s:ChangeSpec} {conds:List PathCond} {apart fresh handsOn again:Bool} {X:World→Array Value→Prop}
  (hX:∀ (w w':World) (args:Array Value),w.heap=w'.heap→X w args→X w' args)
  (own:ownKnob C.prog.godebug=none) (started:os.Started) (noInit:C.prog.inits.idxOf? f=none) (hfn:C.prog.funcs[f]? = some fn)
  (witness:∃ (w:World) (tape:Tape) (i:Input),w.os=os∧(w.forCall tape i).Shaped C.prog∧i.vars=[]∧Input.okWide C.prog (w.forCall tape i) .any w.heap.size f i∧
   ((s.pre enc C.prog fn conds apart (w.forCall tape i).memory i.args∧X (w.forCall tape i).memory i.args)∧sizedMet enc C.prog fn (OpenSpec.ofChange s) apart (w.forCall tape i).memory i.args)∧a.holds C.prog (lone (Frame.enter C.prog f i.args .normal) [] (w.forCall tape i)))
  (contract:∀ (W:World) (base:Nat) (args:Array Value) (ds gs:List (DataW H)) (before:List MemPlace),
   (∀ (j:Nat) t v,fn.params[j]? = some t→args[j]? = some v→Value.okWide C.prog W .any base t v)→
   DataW.Whole enc C.prog fn.params.toList s.vars apart W args.toList ds gs before→X W args→W.ShapedOpen C.prog→
   Calls C.prog f args W fun e W'=>∃ v,e = .returned v∧s.post enc C.prog fn apart fresh handsOn again W args v W') :
  ReturnsInHanded a C os f .any (fun w args=>(s.pre enc C.prog fn conds apart w args∧X w args)∧sizedMet enc C.prog fn (OpenSpec.ofChange s) apart w args) (s.post enc C.prog fn apart fresh handsOn again):=by
 refine returnsInHanded_of_calls own started noInit witness ?_
 intro w tape i _ hsh _ hok hpre hholds
 obtain ⟨_,_,_,fn',hfn',_,_,_,_,hval⟩:=hok
 have e:fn'=fn:=Option.some.inj (hfn'.symm.trans hfn)
 subst e
 obtain ⟨⟨⟨ds,gs,before,hw,hc⟩,hx⟩,hz⟩:=hpre
 have hw':=DataW.Whole.of_heap (w':=w.forCall tape i) (by rfl) hw
 refine (contract (w.forCall tape i) w.heap.size i.args ds gs before hval hw' (hX _ _ _ (by rfl) hx) hsh).mono fun e W' ⟨v,he,hp⟩=>?_
 subst he
 exact ChangeSpec.post_blind hp
section
variable {H:Type} {enc:TypeId × Value→H} {w:World} {base:Nat} {spare:Nat→Bool} {held:Bool} {fuel:Nat}
theorem sl_open {a:Option Addr} {len cap:Nat} {y:DataW H × List MemPlace}
  (h:DataW.trod enc Tryz.prog w base spare held fuel 22 [.slice a len cap]=some y):∃ xs:List Nat,xs.length=len∧Sl w a cap xs:=by
 rcases open_ints Tryz.underlying22 Tryz.underlying5 (by kernel_rfl) h with ⟨hcs,_⟩ | ⟨ad,l,c,zs,hcs,_,hl,hm,hz,_,hcell,hwf⟩
 ·simp at hcs
  obtain ⟨rfl,rfl,rfl⟩:=hcs
  exact ⟨[],rfl,Sl.none_ w⟩
 ·simp at hcs
  obtain ⟨rfl,rfl,rfl⟩:=hcs
  have hzl:len≤zs.length:=by rw [hz];split <;> omega
  have hbd:∀ n∈zs,0≤n∧n<256:=fun n hn=>by have:=bounds_u8 (hwf n hn);omega
  have hlen:((zs.take len).map Int.toNat).length=len:=by rw [List.length_map,List.length_take];omega
  refine ⟨(zs.take len).map Int.toNat,hlen,?_,by rw [hlen];exact hl,hm,(fun e=>by cases e),?_⟩
  ·by_cases h0:len=0
   ·left
    exact List.eq_nil_of_length_eq_zero (by rw [hlen,h0])
   ·right
    have hc0:=hcell 0 (by omega)
    obtain ⟨b,off,spot⟩:=ad
    have hspot:spot=none:=by simpa [Addr.add] using World.cell?_spot hc0
    subst hspot
    refine ⟨b,off,rfl,fun j hj=>?_⟩
    rw [hlen] at hj
    have hcj:=hcell j (by omega)
    rw [Addr.add_lit] at hcj
    rw [hcj]
    have hm':=hbd (zs[j]'(by omega)) (List.getElem_mem _)
    simp [List.getD,hj,show j<zs.length by omega,Int.toNat_of_nonneg hm'.1]
  ·intro x hx
   obtain ⟨z,hz1,rfl⟩:=List.mem_map.1 hx
   have:=hbd z (List.mem_of_mem_take hz1)
   omega
end
end
section
open Go.RowKit Go.Proofs.YtbogfailbgbdoaaGreatDoor U
theorem RTks.nil (W:World) (B:Nat):RTks W B (.slice none 0 0) []:=⟨World.ownsRow_nil _ _ _ _,fun x hx=>by cases hx⟩
theorem RAtV.at {W:World} {B:Nat} {v:Value} {l:List At} (h:RAtV W B v l):∃ a cc,v = .slice a l.length cc∧(l≠[]→∃ g,a=some ⟨g,0,none⟩∧B≤g∧∀ i x,l[i]? = some x→W.cell? ⟨g,i*2,none⟩=some (.string (txt x.1))∧W.cell? ⟨g,i*2+1,none⟩=some (.string (txt x.2))):=by
 obtain ⟨a,cc,rfl,ho⟩:=h
 exact ⟨a,cc,rfl,fun hl=>row60 ho hl⟩
theorem Tks.below {W W':World} {B:Nat} {tv:Value} {m:List Tkm} (h:Tks W B tv m) (hb:Below W.heap.size W W'):Tks W' B tv m:=h.touch (Touch.of_below (S:=fun _=>False) hb) (fun _ h=>h.elim)
set_option maxHeartbeats 6400000 in
theorem rsame_any (B B':Nat) (a b:Option Addr) (n n' c c':Nat) (m m':List Tkm) (w:World) (h1:Tks w B (.slice a n c) m) (h2:RTks w B' (.slice b n' c') m') (he:m.map Prod.fst=m'.map Prod.fst) (hm:m.length≤1000000) :
  Calls Tryz.prog 12 #[.slice a n c,.slice b n' c'] w fun e w'=>e = .returned (.bool true)∧Below w.heap.size w w':=by
 obtain ⟨e1,k1⟩:=h1.at
 obtain ⟨e2,k2⟩:=h2.at
 have hl:m.length=m'.length:=by have:=congrArg List.length he;simpa using this
 obtain rfl:n'=n:=by omega
 have HN:=Lib.hid e1
 have HL:=Lib.hid hl
 have HE:=Lib.hid he
 have H1:=Lib.hid h1
 have H2:=Lib.hid h2
 have hn6:n'≤1000000:=by omega
 clear e1 e2 k1 k2 hl he h1 h2 hm
 have HB0:=Lib.hid (Below.refl w.heap.size w)
 go_enter Tryz.func12,Tryz.ntmps12
 go_wp2
 go_loopg [5,6,7,8] n' (fun gh s5 _ _ _ wr=>∃ i:Nat,s5 = .int .i64 (i:Nat)∧Hid (Below w.heap.size w wr)∧n'-i≤gh∧i≤n')
 case atStart=>exact ⟨0,rfl,HB0,by omega,Nat.zero_le _⟩
 case round=>
  obtain ⟨i,rfl,hb,hgh,hi⟩:=hrel
  generalize wr=W0 at *
  by_cases hlt:i<n'
  ·have hltI:(i:Int)<n':=by omega
   have him:i<m.length:=by rw [←HN.out];exact hlt
   have him':i<m'.length:=by rw [←HL.out];exact him
   obtain ⟨x,hx⟩:∃ x,m[i]? = some x:=⟨m[i],List.getElem?_eq_getElem him⟩
   obtain ⟨y,hy⟩:∃ y,m'[i]? = some y:=⟨m'[i],List.getElem?_eq_getElem him'⟩
   have hxy:x.1=y.1:=by
    have h3:=congrArg (fun l=>l[i]?) HE.out
    simp only [List.getElem?_map,hx,hy,Option.map_some] at h3
    exact Option.some.inj h3
   have T1:=H1.out.below hb.out
   have T2:=H2.out.below hb.out
   have hne:m≠[]:=fun e=>by rw [e] at him;simp at him
   have hne':m'≠[]:=fun e=>by rw [e] at him';simp at him'
   obtain ⟨g,hga,hgB,hg⟩:=T1.at.2 hne
   obtain ⟨g',hgb,hgB',hg'⟩:=T2.at.2 hne'
   subst hga hgb
   have X:=hg i x hx
   have Y:=hg' i y hy
   have ax:=(T1.av x (List.mem_of_getElem? hx)).1
   have ay:=(T2.av y (List.mem_of_getElem? hy)).1
   have hl256:=(T1.av x (List.mem_of_getElem? hx)).2
   obtain ⟨⟨⟨kk,nm,tx,at_,em⟩,pl⟩,xv⟩:=x
   obtain ⟨⟨t2,pl2⟩,yv⟩:=y
   simp only at hxy
   injection hxy with hxy1 hxy2
   subst hxy1 hxy2
   simp only at ax ay hl256
   obtain ⟨xa,xc,rfl,hxr⟩:=ax.at
   obtain ⟨ya,yc,rfl,hyr⟩:=ay.at
   obtain ⟨c0,c1,c2,c3,c4,c5⟩:=X
   obtain ⟨d0,d1,d2,d3,d4,d5⟩:=Y
   simp only at c0 c1 c2 c3 c4 c5 d0 d1 d2 d3 d4 d5
   obtain ⟨L,hL⟩:∃ L,L=at_.length:=⟨_,rfl⟩
   rw [←hL] at c3 d3 hl256
   have HLL:=Lib.hid hL
   obtain ⟨TN,hTN⟩:∃ T,T=txt nm:=⟨_,rfl⟩
   obtain ⟨TT2,hTT⟩:∃ T,T=txt tx:=⟨_,rfl⟩
   rw [←hTN] at c1 d1
   rw [←hTT] at c2 d2
   have HX:=Lib.hid hxr
   have HY:=Lib.hid hyr
   have lb:=lit_below W0 (.cells #[.int .i64 (kk:Nat),.string TN,.string TT2,.slice xa L xc,.bool em,.int .i64 (pl:Nat)] 44)
   have hgw':g'<W0.heap.size:=World.block_lt_of_cell? W0 _ d0
   have f0:=(lb.cell (p:=⟨g',i*6,none⟩) hgw').trans d0
   have f1:=(lb.cell (p:=⟨g',i*6+1,none⟩) hgw').trans d1
   have f2:=(lb.cell (p:=⟨g',i*6+2,none⟩) hgw').trans d2
   have f3:=(lb.cell (p:=⟨g',i*6+3,none⟩) hgw').trans d3
   have f4:=(lb.cell (p:=⟨g',i*6+4,none⟩) hgw').trans d4
   have f5:=(lb.cell (p:=⟨g',i*6+5,none⟩) hgw').trans d5
   clear lb d0 d1 d2 d3 d4 d5 hTN hTT hL hxr hyr hx hy him him' hne hne' hg hg' T1 T2 ax ay
   go_upto_region 8 with fail
   refine gen_w0 fun W2 hW2=>?_
   have b1:Blk W2 W0.heap.size 44 #[.int .i64 (kk:Nat),.string TN,.string TT2,.slice xa L xc,.bool em,.int .i64 (pl:Nat)]:=by
    rw [hW2]
    exact (Blk.made W0 44 _).below (lit_below _ _)
   have b2:Blk W2 (W0.heap.size+1) 58 #[.int .i64 (kk:Nat),.string TN,.string TT2,.slice ya L yc,.bool em,.int .i64 (pl:Nat)]:=by
    rw [hW2]
    have:=Blk.made (W0.alloc (.cells #[.int .i64 (kk:Nat),.string TN,.string TT2,.slice xa L xc,.bool em,.int .i64 (pl:Nat)] 44)) 58 #[.int .i64 (kk:Nat),.string TN,.string TT2,.slice ya L yc,.bool em,.int .i64 (pl:Nat)]
    rw [alloc_size] at this
    exact this
   have B2:Hid (Below W0.heap.size W0 W2):=Lib.hid (by
    rw [hW2]
    exact (lit_below W0 _).trans ((lit_below _ _).mono (by rw [alloc_size];omega)))
   have BK1:=Lib.hid b1
   have BK2:=Lib.hid b2
   clear hW2 c0 c1 c2 c3 c4 c5 f0 f1 f2 f3 f4 f5 b1 b2
   obtain ⟨c0,c1,c2,c3,c4,c5⟩:=blk6 BK1.out
   obtain ⟨d0,d1,d2,d3,d4,d5⟩:=blk6 BK2.out
   go_wp2
   go_loopg [8] L (fun gh2 s8 wz=>∃ j:Nat,s8 = .int .i64 (j:Nat)∧Hid (Below W2.heap.size W2 wz)∧L-j≤gh2∧j≤L)
   case atStart=>exact ⟨0,rfl,Lib.hid (Below.refl _ _),by omega,Nat.zero_le _⟩
   case round=>
    obtain ⟨j,rfl,hbz,hgh2,hj⟩:=hrel
    clear c0 c1 c2 c3 c4 c5 d0 d1 d2 d3 d4 d5
    have K1:=BK1.out.below hbz.out
    have K2:=BK2.out.below hbz.out
    obtain ⟨c0,c1,c2,c3,c4,c5⟩:=blk6 K1
    obtain ⟨d0,d1,d2,d3,d4,d5⟩:=blk6 K2
    clear K1 K2
    by_cases hjl:j<L
    ·have hjI:(j:Int)<L:=by omega
     have hja:j<at_.length:=by rw [←HLL.out];exact hjl
     have hne:at_≠[]:=fun e=>by rw [e] at hja;simp at hja
     obtain ⟨u,hu⟩:∃ u,at_[j]? = some u:=⟨at_[j],List.getElem?_eq_getElem hja⟩
     obtain ⟨gx,hgx,_,hcx⟩:=HX.out hne
     obtain ⟨gy,hgy,_,hcy⟩:=HY.out hne
     subst hgx hgy
     obtain ⟨p0,p1⟩:=hcx j u hu
     obtain ⟨q0,q1⟩:=hcy j u hu
     have hz:∀ (q:Addr) (v:Value),W0.cell? q=some v→wr.cell? q=some v:=fun q v h=>by
      have h1:=(B2.out.cell (World.block_lt_of_cell? _ _ h)).trans h
      exact (hbz.out.cell (World.block_lt_of_cell? _ _ h1)).trans h1
     have p0:=hz _ _ p0
     have p1:=hz _ _ p1
     have q0:=hz _ _ q0
     have q1:=hz _ _ q1
     generalize txt u.1=U1 at p0 q0
     generalize txt u.2=U2 at p1 q1
     clear hz hcx hcy hu hja hne
     go_upto_region 13 with fail
     go_quiet (fail)
     go_wp2
     go_roundg (L-(j+1))
     case measure=>omega
     case rel=>exact ⟨j+1,by go_num,Lib.hid (below_drewN hbz.out _),by omega,by omega⟩
    ·have hjI:¬(j:Int)<L:=by omega
     go_wp2
     go_roundg (n'-(i+1))
     case measure=>omega
     case rel=>exact ⟨i+1,by go_num,Lib.hid (by
      have b3:=hb.out.trans (B2.out.mono hb.out.size)
      exact b3.trans (hbz.out.mono b3.size)),by omega,by omega⟩
  ·have hltI:¬(i:Int)<n':=by omega
   go_wp2
   go_ret
   exact ⟨rfl,hb.out⟩
theorem ts_len3:∀ (f k:Nat) (L:List Nat) (l:Tks0),L.length≤f→Bs L→tsA k L = .ok l→l.length≤L.length
 | f,k,L,l,hf,hb,h=>by
  by_cases hne:L=[]
  ·subst hne;rw [ts_nil h];exact Nat.le_refl _
  obtain ⟨t,n,r,h1,h2,rfl,n0,nl⟩:=ts_cons hb hne h
  cases f with
  | zero=>exact absurd (List.eq_nil_of_length_eq_zero (by omega)) hne
  | succ f=>
   have:=ts_len3 f (k+n) (L.drop n) r (by rw [List.length_drop];omega) (hb.drop _) h2
   rw [List.length_drop] at this
   simp only [List.length_cons];omega
theorem sc_len3 {b:List Nat} {l:Tks0} (hb:Bs b) (h:scP b = .ok l):l.length≤b.length:=by
 unfold scP at h
 split at h
 ·cases h
 ·have hs:=strip_len b
  have hbs:Bs (stripP b):=by
   unfold stripP;split
   ·exact hb.drop _
   ·exact hb
  have:=ts_len3 _ 0 _ l (Nat.le_refl _) (lin_bs hbs) h
  have:=lin_len (stripP b)
  omega
set_option maxHeartbeats 6400000 in
theorem scans_main (ao:Option Addr) (c:Nat) (xs:List Nat) (w:World) (hT:TT w) (h:Sl w ao c xs) (hm:xs.length≤3000) :
  Calls Tryz.prog 3 #[.slice ao xs.length c] w fun e w'=>e = .returned (.bool true)∧Below w.heap.size w w':=by
 have KA:=Lib.hid (alive_any w hT)
 have e1:¬(3000:Int)<xs.length:=by omega
 have HS:=Lib.hid h
 have HTT:=Lib.hid fun (W:World) (hW:Below w.heap.size w W)=>hT.grow hW
 have KC:=Lib.hid fun (W:World) (hW:Below w.heap.size w W)=>(copy_any ao c xs W (h.below hW) (by omega)).mono fun e w' ho=>ho.sl h.bs
 have KP:=Lib.hid fun (W:World) (a1:Option Addr) (c1:Nat) (hs:Sl W a1 c1 xs) (hW:TT W)=>scan_any a1 c1 xs W hs (by omega) hW
 have KR:=Lib.hid fun (W:World) (hW:Below w.heap.size w W)=>rscan_any ao c xs W (h.below hW) (by omega)
 have KE:=Lib.hid fun (W:World) (a1:Option Addr) (c1:Nat) (h1:Sl W a1 c1 xs) (h2:Sl W ao c xs)=>same_eq a1 ao c1 c xs W h1 h2
 have HSL:=Lib.hid fun l (hl:scP xs = .ok l)=>sc_len3 h.bs hl
 unfold ScTo at KP
 unfold RScTo at KR
 unfold SlTo at KC
 rcases hr:scP xs with ⟨a,er⟩ | l
 ·rw [hr] at KP KR
  simp only at KP KR
  have KS:=Lib.hid fun W=>rsame_any 0 0 none none 0 0 0 0 [] [] W (Tks.nil W 0) (RTks.nil W 0) rfl (by simp)
  obtain ⟨n,hn⟩:∃ n,n=xs.length:=⟨_,rfl⟩
  rw [←hn] at KC KP KR KE e1 ⊢
  clear hT h hr hn hm HSL
  go_enter Tryz.func3,Tryz.ntmps3
  go_wp2_with (first
   | (go_at_call 8;(with_reducible refine KA.out.mono ?_);rintro e w1 ⟨rfl,hb⟩;have B1:=Lib.hid hb;clear hb)
   | (go_at_call 9;(with_reducible refine (KC.out w1 B1.out).mono ?_);rintro e w2 ⟨a2,c2,rfl,hs2,hb⟩;have S2:=Lib.hid hs2;have B2:=Lib.hid (B1.out.trans (hb.mono B1.out.size));clear hb hs2)
   | (go_at_call 10;(with_reducible refine (KP.out w2 a2 c2 S2.out (HTT.out w2 B2.out)).mono ?_);rintro e w3 ⟨hb,rfl⟩;have S3:=Lib.hid (S2.out.below hb);have B3:=Lib.hid (B2.out.trans (hb.mono B2.out.size));clear hb)
   | (go_at_call 11;(with_reducible refine (KR.out w3 B3.out).mono ?_);rintro e w4 ⟨hb,rfl⟩;have S4:=Lib.hid (S3.out.below hb);have B4:=Lib.hid (B3.out.trans (hb.mono B3.out.size));clear hb)
   | (go_at_call 12;(with_reducible refine (KS.out w4).mono ?_);rintro e w5 ⟨rfl,hb⟩;have S5:=Lib.hid (S4.out.below hb);have B5:=Lib.hid (B4.out.trans (hb.mono B4.out.size));clear hb)
   | (go_at_call 13;(with_reducible refine (KE.out w5 a2 c2 S5.out (HS.out.below B5.out)).mono ?_);rintro e w6 ⟨rfl,q,rfl⟩;have B6:=Lib.hid (below_drewN B5.out q)))
  go_ret
  exact ⟨rfl,B6.out⟩
 ·rw [hr] at KP KR
  simp only at KP KR
  have hll:=HSL.out l hr
  have KS:Hid (∀ W B B' (a:Option Addr) (n cc:Nat) (b:Option Addr) (n' c':Nat) (m m':List Tkm),Tks W B (.slice a n cc) m→RTks W B' (.slice b n' c') m'→m.map Prod.fst=l→m'.map Prod.fst=l→Calls Tryz.prog 12 #[.slice a n cc,.slice b n' c'] W fun e w'=>e = .returned (.bool true)∧Below W.heap.size W w'):=Lib.hid fun W B B' a n cc b n' c' m m' h1 h2 h3 h4=>rsame_any B B' a b n n' cc c' m m' W h1 h2 (h3.trans h4.symm) (by have:=congrArg List.length h3;rw [List.length_map] at this;omega)
  obtain ⟨n,hn⟩:∃ n,n=xs.length:=⟨_,rfl⟩
  rw [←hn] at KC KP KR KE e1 ⊢
  clear hT h hr hn hm HSL hll
  go_enter Tryz.func3,Tryz.ntmps3
  go_wp2_with (first
   | (go_at_call 8;(with_reducible refine KA.out.mono ?_);rintro e w1 ⟨rfl,hb⟩;have B1:=Lib.hid hb;clear hb)
   | (go_at_call 9;(with_reducible refine (KC.out w1 B1.out).mono ?_);rintro e w2 ⟨a2,c2,rfl,hs2,hb⟩;have S2:=Lib.hid hs2;have B2:=Lib.hid (B1.out.trans (hb.mono B1.out.size));clear hb hs2)
   | (go_at_call 10;(with_reducible refine (KP.out w2 a2 c2 S2.out (HTT.out w2 B2.out)).mono ?_);rintro e w3 ⟨hb,a3,n3,c3,m3,rfl,hm3,ht3⟩;have M3:=Lib.hid hm3;have T3:=Lib.hid ht3;have S3:=Lib.hid (S2.out.below hb);have B3:=Lib.hid (B2.out.trans (hb.mono B2.out.size));clear hb hm3 ht3)
   | (go_at_call 11;(with_reducible refine (KR.out w3 B3.out).mono ?_);rintro e w4 ⟨hb,a4,n4,c4,m4,rfl,hm4,ht4⟩;have M4:=Lib.hid hm4;have R4:=Lib.hid ht4;have T4:=Lib.hid (T3.out.below hb);have S4:=Lib.hid (S3.out.below hb);have B4:=Lib.hid (B3.out.trans (hb.mono B3.out.size));clear hb hm4 ht4)
   | (go_at_call 12;(with_reducible refine (KS.out w4 _ _ a3 n3 c3 a4 n4 c4 m3 m4 T4.out R4.out M3.out M4.out).mono ?_);rintro e w5 ⟨rfl,hb⟩;have S5:=Lib.hid (S4.out.below hb);have B5:=Lib.hid (B4.out.trans (hb.mono B4.out.size));clear hb)
   | (go_at_call 13;(with_reducible refine (KE.out w5 a2 c2 S5.out (HS.out.below B5.out)).mono ?_);rintro e w6 ⟨rfl,q,rfl⟩;have B6:=Lib.hid (below_drewN B5.out q)))
  go_ret
  exact ⟨rfl,B6.out⟩
set_option maxHeartbeats 3200000 in
theorem scans_long (ao:Option Addr) (c n:Nat) (w:World) (hT:TT w) (hn:3000<n) :
  Calls Tryz.prog 3 #[.slice ao n c] w fun e w'=>e = .returned (.bool true)∧Below w.heap.size w w':=by
 have KA:=Lib.hid (alive_any w hT)
 have e1:(3000:Int)<n:=by omega
 clear hT hn
 go_enter Tryz.func3,Tryz.ntmps3
 go_wp2_with (go_at_call 8;(with_reducible refine KA.out.mono ?_);rintro e w1 ⟨rfl,hb⟩;have HB1:=Lib.hid hb;clear hb)
 go_ret
 exact ⟨rfl,HB1.out⟩
theorem scans_all (ao:Option Addr) (c:Nat) (xs:List Nat) (w:World) (hT:TT w) (h:Sl w ao c xs) :
  Calls Tryz.prog 3 #[.slice ao xs.length c] w fun e w'=>e = .returned (.bool true)∧Below w.heap.size w w':=by
 by_cases hm:xs.length≤3000
 ·exact scans_main ao c xs w hT h hm
 ·exact scans_long ao c xs.length w hT (by omega)
end
end Go.Proofs.YtbogfailbgbdoaaGreatDoor.K
