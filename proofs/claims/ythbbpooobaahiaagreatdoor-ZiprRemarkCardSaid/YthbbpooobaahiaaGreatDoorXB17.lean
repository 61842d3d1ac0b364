/- Part 17. -/
import Derived.Maps.OwnOps
import Derived.Maps.OwnSet
import Derived.Maps.Views
import Derived.Test.YthbbpooobaahiaaGreatDoorXB13
namespace Go.Proofs.YthbbpooobaahiaaGreatDoor.Zz
set_option maxRecDepth 100000
section
open Go.RowKit
abbrev rowKs:List Int:=[1,0,0,0,0,0,0,1,1,1,0,0,0,0,0,1,1]
theorem rowKs_ok:Ks rowKs:=by intro k hk;simp at hk;omega
theorem rowKs_kt:kt rowKs=46:=by simp [kt,kw]
def RowTo (ys:List Nat) (p:Nat) (w:World) (e:Ending) (w':World):Prop:=
 Below w.heap.size w w'∧((rowE ys p≠0∧e=zpan (rowE ys p))∨(rowE ys p=0∧∃ ra rc,e = .returned (.tuple #[.agg (rcl (rowR ys p) ra rc),.int .i64 (rowZ ys p:Nat)])∧Cu.Sl w' ra rc (rowR ys p).remark∧∀ ad,ra=some ad→w.heap.size≤ad.block))
theorem RowTo.bad {ys:List Nat} {p:Nat} {w w':World} (er:Nat) (h:rowE ys p=er) (h0:er≠0) (hb:Below w.heap.size w w'):RowTo ys p w (zpan er) w':=⟨hb,.inl ⟨by rw [h];exact h0,by rw [h]⟩⟩
theorem no_u8 (nm:ByteArray) (a1 a2 a3 a4 a5 a6 a7 a8 a9:Nat) {off:Nat} {x:Int}
  (h:(#[.string nm,.int .i64 (a1:Nat),.int .i64 (a2:Nat),.int .i64 (a3:Nat),.int .i64 (a4:Nat),.int .i64 (a5:Nat),.int .i64 (a6:Nat),.int .i64 (a7:Nat),.int .i64 (a8:Nat),.int .u32 (a9:Nat),.slice none 0 0]:Array Value)[off]? = some (.int .u8 x)):False:=by
 rcases (by omega:off=0∨off=1∨off=2∨off=3∨off=4∨off=5∨off=6∨off=7∨off=8∨off=9∨off=10∨11≤off) with rfl | rfl | rfl | rfl | rfl | rfl | rfl | rfl | rfl | rfl | rfl | h1
 case inr.inr.inr.inr.inr.inr.inr.inr.inr.inr.inr=>
  rw [Array.getElem?_eq_none (by simpa using h1)] at h;cases h
 all_goals simp at h
set_option maxHeartbeats 6400000 in
theorem rowAt_any (ao:Option Addr) (cc:Nat) (ys:List Nat) (p:Nat) (w:World) (hT:TZ w) (h:Cu.Sl w ao cc ys) (hm:ys.length≤1000000) (hp:p≤5000000000) :
  Calls Tryz.prog 69 #[.slice ao ys.length cc,.int .i64 p] w (RowTo ys p w):=by
 have HS:=Lib.hid h
 have HT:=Lib.hid hT
 have HE:Hid (rowE ys p=if ys.length<p+46∨nu4 ys p≠33639248∨ys.length<rowZ ys p then 10
  else if nu2 ys (p+34)≠0∨(rowR ys p).packed=big∨(rowR ys p).plain=big∨(rowR ys p).at_=big∨fBad (rowR ys p).flags=true∨((rowR ys p).method≠0∧(rowR ys p).method≠8) then 17
  else if nameF (rowR ys p).name (fWide (rowR ys p).flags)=true then 19 else 0):=Lib.hid rfl
 have hbs:Bs ys:=h.bs
 have hle:=h.le
 have hbig:=h.big
 unfold maxLen at hbig
 obtain ⟨w0,hw0⟩:∃ w0,w0=(w.alloc (.cells #[.string ⟨#[]⟩,.int .i64 0,.int .i64 0,.int .i64 0,.int .i64 0,.int .i64 0,.int .i64 0,.int .i64 0,.int .i64 0,.int .u32 0,.slice none 0 0] 49)).alloc (.cells #[.int .i64 1,.int .i64 0,.int .i64 0,.int .i64 0,.int .i64 0,.int .i64 0,.int .i64 0,.int .i64 1,.int .i64 1,.int .i64 1,.int .i64 0,.int .i64 0,.int .i64 0,.int .i64 0,.int .i64 0,.int .i64 1,.int .i64 1] 82):=⟨_,rfl⟩
 have hb0:Below w.heap.size w w0:=by rw [hw0];exact ((Below.refl _ w).alloc (Nat.le_refl _) _).alloc (by simp) _
 have hks:Cu.KSrc w0 (some ⟨w.heap.size+1,0,none⟩) rowKs:=ksrc_lit (t:=82) (by rw [hw0];exact Blk.made1 _ _ _ _)
 have hres:Blk w0 w.heap.size 49 #[.string ⟨#[]⟩,.int .i64 0,.int .i64 0,.int .i64 0,.int .i64 0,.int .i64 0,.int .i64 0,.int .i64 0,.int .i64 0,.int .u32 0,.slice none 0 0]:=by
  rw [hw0];exact (Blk.made w 49 _).below ((Below.refl _ _).alloc (Nat.le_refl _) _)
 have HB0:=Lib.hid hb0
 have HRES:=Lib.hid hres
 by_cases f1:p+46≤ys.length
 case neg=>
  have K1:=Lib.hid (numbers_no ao cc ys p _ 17 rowKs w0 (h.below hb0) hks rowKs_ok hm (by decide) (by rw [rowKs_kt];omega))
  have HR:Hid (rowE ys p=10):=Lib.hid (by rw [HE.out,if_pos (.inl (by omega))])
  clear h hT hks hres hb0
  go_enter Tryz.func69,Tryz.ntmps69
  go_wp2_with fail
  rw [←hw0]
  clear hw0
  refine K1.out.mono ?_
  rintro e w1 ⟨hb1,g,rfl⟩
  have HB1:=Lib.hid (HB0.out.trans (hb1.mono HB0.out.size))
  clear hb1
  go_wp2_with (go_at_call 43;refine (zmust_no 10 _).mono ?_;rintro e w' ⟨rfl,rfl⟩)
  exact ⟨rfl,RowTo.bad 10 HR.out (by decide) HB1.out⟩
 case pos=>
 have K1:=Lib.hid (numbers_ok ao cc ys p _ 17 rowKs w0 (h.below hb0) hks rowKs_ok hm (by decide) (by rw [rowKs_kt];omega))
 clear hks hres hb0
 go_enter Tryz.func69,Tryz.ntmps69
 go_wp2_with fail
 rw [←hw0]
 clear hw0
 refine K1.out.mono ?_
 rintro e w1 ⟨hb1,g,rfl,hg,hN⟩
 have c0:w1.cell? ⟨g,0,none⟩=some (.int .i64 (nu4 ys p:Nat)):=hN 0 (by simp [nsAt])
 have c3:w1.cell? ⟨g,3,none⟩=some (.int .i64 (nu2 ys (p+8):Nat)):=hN 3 (by simp [nsAt])
 have c4:w1.cell? ⟨g,4,none⟩=some (.int .i64 (nu2 ys (p+10):Nat)):=hN 4 (by simp [nsAt])
 have c5:w1.cell? ⟨g,5,none⟩=some (.int .i64 (nu2 ys (p+12):Nat)):=hN 5 (by simp [nsAt])
 have c6:w1.cell? ⟨g,6,none⟩=some (.int .i64 (nu2 ys (p+14):Nat)):=hN 6 (by simp [nsAt])
 have c7:w1.cell? ⟨g,7,none⟩=some (.int .i64 (nu4 ys (p+16):Nat)):=hN 7 (by simp [nsAt])
 have c8:w1.cell? ⟨g,8,none⟩=some (.int .i64 (nu4 ys (p+20):Nat)):=hN 8 (by simp [nsAt])
 have c9:w1.cell? ⟨g,9,none⟩=some (.int .i64 (nu4 ys (p+24):Nat)):=hN 9 (by simp [nsAt])
 have c10:w1.cell? ⟨g,10,none⟩=some (.int .i64 (nu2 ys (p+28):Nat)):=hN 10 (by simp [nsAt])
 have c11:w1.cell? ⟨g,11,none⟩=some (.int .i64 (nu2 ys (p+30):Nat)):=hN 11 (by simp [nsAt])
 have c12:w1.cell? ⟨g,12,none⟩=some (.int .i64 (nu2 ys (p+32):Nat)):=hN 12 (by simp [nsAt])
 have c13:w1.cell? ⟨g,13,none⟩=some (.int .i64 (nu2 ys (p+34):Nat)):=hN 13 (by simp [nsAt])
 have c16:w1.cell? ⟨g,16,none⟩=some (.int .i64 (nu4 ys (p+42):Nat)):=hN 16 (by simp [nsAt])
 by_cases f2:nu4 ys p=33639248
 case neg=>
  have HR:Hid (rowE ys p=10):=Lib.hid (by rw [HE.out,if_pos (.inr (.inl f2))])
  have HB1:=Lib.hid (HB0.out.trans (hb1.mono HB0.out.size))
  have z:(((nu4 ys p:Nat):Int) == 33639248)=false:=by simp;omega
  obtain ⟨x,hx⟩:∃ x,x=nu4 ys p:=⟨_,rfl⟩
  rw [←hx] at c0 z
  clear hx c3 c4 c5 c6 c7 c8 c9 c10 c11 c12 c13 c16
  go_wp2_with (go_at_call 43;refine (zmust_no 10 _).mono ?_;rintro e w' ⟨rfl,rfl⟩)
  exact ⟨rfl,RowTo.bad 10 HR.out (by decide) HB1.out⟩
 case pos=>
 rw [f2] at c0
 have HN:=Lib.hid hb1
 have hq4:=fun q=>nu4_lt hbs q
 have e1:=hq4 (p+16)
 obtain ⟨fl,hfl⟩:∃ x,x=nu2 ys (p+8):=⟨_,rfl⟩
 obtain ⟨me,hme⟩:∃ x,x=nu2 ys (p+10):=⟨_,rfl⟩
 obtain ⟨ti,hti⟩:∃ x,x=nu2 ys (p+12):=⟨_,rfl⟩
 obtain ⟨da,hda⟩:∃ x,x=nu2 ys (p+14):=⟨_,rfl⟩
 obtain ⟨su,hsu⟩:∃ x,x=nu4 ys (p+16):=⟨_,rfl⟩
 obtain ⟨pk,hpk⟩:∃ x,x=nu4 ys (p+20):=⟨_,rfl⟩
 obtain ⟨pl,hpl⟩:∃ x,x=nu4 ys (p+24):=⟨_,rfl⟩
 obtain ⟨nn,hnn⟩:∃ x,x=nu2 ys (p+28):=⟨_,rfl⟩
 obtain ⟨xx,hxx⟩:∃ x,x=nu2 ys (p+30):=⟨_,rfl⟩
 obtain ⟨mm,hmm⟩:∃ x,x=nu2 ys (p+32):=⟨_,rfl⟩
 obtain ⟨di,hdi⟩:∃ x,x=nu2 ys (p+34):=⟨_,rfl⟩
 obtain ⟨at_,hat⟩:∃ x,x=nu4 ys (p+42):=⟨_,rfl⟩
 rw [←hfl] at c3
 rw [←hme] at c4
 rw [←hti] at c5
 rw [←hda] at c6
 rw [←hsu] at c7 e1
 rw [←hpk] at c8
 rw [←hpl] at c9
 rw [←hnn] at c10
 rw [←hxx] at c11
 rw [←hmm] at c12
 rw [←hdi] at c13
 rw [←hat] at c16
 have e2:(su:Int)<4294967296:=by omega
 have e3:IntKind.u32.wrap (su:Int)=su:=by simp [IntKind.wrap,IntKind.bits,IntKind.signed];omega
 have HFL:=Lib.hid (And.intro hfl (And.intro hme (And.intro hti (And.intro hda (And.intro hsu (And.intro hpk (And.intro hpl (And.intro hnn (And.intro hxx (And.intro hmm (And.intro hdi hat)))))))))))
 clear hfl hme hti hda hsu hpk hpl hnn hxx hmm hdi hat hq4 hN hb1 h hT
 have hgl:g<w1.heap.size:=World.block_lt_of_cell? w1 _ c3
 go_upto_region 3 with (go_at_call 43;refine (zmust_yes 10 _).mono ?_;rintro e w' ⟨rfl,rfl⟩)
 go_region_held3 (fun W=>W.cell? ⟨g,3,none⟩=some (.int .i64 (fl:Nat))∧W.cell? ⟨g,4,none⟩=some (.int .i64 (me:Nat))∧W.cell? ⟨g,5,none⟩=some (.int .i64 (ti:Nat))∧W.cell? ⟨g,6,none⟩=some (.int .i64 (da:Nat))∧W.cell? ⟨g,7,none⟩=some (.int .i64 (su:Nat))∧W.cell? ⟨g,8,none⟩=some (.int .i64 (pk:Nat))∧W.cell? ⟨g,9,none⟩=some (.int .i64 (pl:Nat))∧W.cell? ⟨g,11,none⟩=some (.int .i64 (xx:Nat))∧W.cell? ⟨g,16,none⟩=some (.int .i64 (at_:Nat))) (go_keep) (fail)
 obtain ⟨q,hq⟩:∃ q,q=w1.heap.size:=⟨_,rfl⟩
 obtain ⟨w2,hw2⟩:∃ w2,w2=(w1.alloc (.cells #[.string ⟨#[]⟩,.int .i64 (fl:Nat),.int .i64 (me:Nat),.int .i64 (ti:Nat),.int .i64 (da:Nat),.int .i64 (pk:Nat),.int .i64 (pl:Nat),.int .i64 (at_:Nat),.int .i64 (xx:Nat),.int .u32 (su:Nat),.slice none 0 0] 49)).drew:=⟨_,rfl⟩
 have hb12:Below w1.heap.size w1 w2:=by rw [hw2];exact ((Below.refl _ w1).alloc (Nat.le_refl _) _).drew
 have hQ:Blk w2 q 49 #[.string ⟨#[]⟩,.int .i64 (fl:Nat),.int .i64 (me:Nat),.int .i64 (ti:Nat),.int .i64 (da:Nat),.int .i64 (pk:Nat),.int .i64 (pl:Nat),.int .i64 (at_:Nat),.int .i64 (xx:Nat),.int .u32 (su:Nat),.slice none 0 0]:=by rw [hw2,hq];exact Blk.made w1 49 _
 have hr2:=(HRES.out.below HN.out).below hb12
 have hb2:=(HB0.out.trans (HN.out.mono HB0.out.size)).trans (hb12.mono (HB0.out.trans (HN.out.mono HB0.out.size)).size)
 rw [←hw2,←hq]
 have HQ:=Lib.hid hQ
 have HB2:=Lib.hid hb2
 have HR2:=Lib.hid hr2
 have hgq:g<q:=by omega
 have hwg:w.heap.size<g:=by have:=HRES.out.lt;omega
 have HC:Hid (∀ W,Below w2.heap.size w2 W→W.cell? ⟨g,10,none⟩=some (.int .i64 (nn:Nat))∧W.cell? ⟨g,11,none⟩=some (.int .i64 (xx:Nat))∧W.cell? ⟨g,12,none⟩=some (.int .i64 (mm:Nat))∧W.cell? ⟨g,13,none⟩=some (.int .i64 (di:Nat))):=Lib.hid fun W hW=>by
  have hk:∀ i v,w1.cell? ⟨g,i,none⟩=some v→W.cell? ⟨g,i,none⟩=some v:=fun i v hv=>by
   have h1:=(hb12.cell (World.block_lt_of_cell? w1 _ hv)).trans hv
   exact (hW.cell (World.block_lt_of_cell? w2 _ h1)).trans h1
  exact ⟨hk _ _ c10,hk _ _ c11,hk _ _ c12,hk _ _ c13⟩
 have hlim:nn<65536∧xx<65536∧mm<65536:=by
  obtain ⟨_,_,_,_,_,_,_,h8,h9,h10,_⟩:=HFL.out
  rw [h8,h9,h10]
  exact ⟨nu2_lt hbs _,nu2_lt hbs _,nu2_lt hbs _⟩
 obtain ⟨n1,n2,n3⟩:=hlim
 have KC1:=cut_any ao cc ys (p+46) nn w2 (HS.out.below hb2) hm
 rw [show ((p+46:Nat):Int)=(p:Int)+46 by omega] at KC1
 have KC1:=Lib.hid KC1
 have KC2:Hid (∀ W,Below w2.heap.size w2 W→Calls Tryz.prog 73 #[.slice ao ys.length cc,.int .i64 (IntKind.i64.wrap (IntKind.i64.wrap (IntKind.i64.wrap ((p:Int)+46)+nn)+xx)),.int .i64 (mm:Nat)] W (CutA ys (p+46+nn+xx) mm W)):=Lib.hid fun W hW=>by
  have:=cut_any ao cc ys (p+46+nn+xx) mm W (HS.out.below (hb2.trans (hW.mono hb2.size))) hm
  rwa [show ((p+46+nn+xx:Nat):Int)=IntKind.i64.wrap (IntKind.i64.wrap (IntKind.i64.wrap ((p:Int)+46)+nn)+xx) by rw [wrap_sm ((p:Int)+46) (by omega) (by omega),wrap_sm ((p:Int)+46+nn) (by omega) (by omega),wrap_sm ((p:Int)+46+nn+xx) (by omega) (by omega)];omega] at this
 obtain ⟨cc10,cc11,cc12,cc13⟩:=HC.out w2 (Below.refl _ _)
 clear hw2 hq hb12 hQ hr2 hb2 c0 c3 c4 c5 c6 c7 c8 c9 c10 c11 c12 c13 c16 HRES HN HB0 hgl e1 e2 e3 K1
 have HZ:Hid (rowZ ys p=p+46+nn+xx+mm):=Lib.hid (by
  obtain ⟨_,_,_,_,_,_,_,h8,h9,h10,_⟩:=HFL.out
  rw [h8,h9,h10];rfl)
 go_wp2_with fail
 refine KC1.out.mono ?_
 rintro e w3 ⟨na,nL,nc,rfl,hb3,hn3⟩
 have HN3:=Lib.hid hn3
 have HB3:=Lib.hid hb3
 obtain ⟨b1,hb1⟩:∃ b,b=decide (p+46+nn≤ys.length):=⟨_,rfl⟩
 have HBB1:=Lib.hid hb1
 rw [←hb1]
 clear hn3 hb3 hb1 cc10 cc11 cc12 cc13
 obtain ⟨cc10,cc11,cc12,cc13⟩:=HC.out w3 HB3.out
 obtain ⟨b2,hb2⟩:∃ b,b=decide (p+46+nn+xx+mm≤ys.length):=⟨_,rfl⟩
 have HBB2:=Lib.hid hb2
 go_upto_region 5 with fail
 go_region_held3 (fun W=>W.cell? ⟨g,10,none⟩=some (.int .i64 (nn:Nat))∧W.cell? ⟨g,11,none⟩=some (.int .i64 (xx:Nat))∧W.cell? ⟨g,12,none⟩=some (.int .i64 (mm:Nat))) (first | go_keep | exact (fun h=>⟨h.1,h.2.1,h.2.2.1⟩) (HC.out _ HB4.out)) (first | (go_at_call 73;(refine (KC2.out _ (below_drewN HB3.out 1)).mono ?_);rintro e w4 ⟨ra,rL,rc,rfl,hb4,hr4⟩;rw [←hb2];have HB4:=Lib.hid ((below_drewN HB3.out 1).trans (hb4.mono (below_drewN HB3.out 1).size));have HR4:=Lib.hid hr4;have HB34:=Lib.hid ((below_drewN (Below.refl w3.heap.size w3) 1).trans hb4);clear hb4 hr4;obtain ⟨cc10,cc11,cc12,cc13⟩:=HC.out w4 HB4.out))
 have HBW4:=Lib.hid (HB2.out.trans (HB4.out.mono HB2.out.size))
 clear cc10 cc11 cc12 cc13
 by_cases f3:p+46+nn+xx+mm≤ys.length
 case neg=>
  have HRx:Hid (rowE ys p=10):=Lib.hid (by rw [HE.out,if_pos (.inr (.inr (by rw [HZ.out];omega)))])
  clear hb2
  cases b1
  all_goals
   go_wp2_with (go_at_call 43;refine (zmust_no 10 _).mono ?_;rintro e w' ⟨rfl,rfl⟩)
   exact ⟨rfl,RowTo.bad 10 HRx.out (by decide) HBW4.out⟩
 case pos=>
 have hb1t:b1=true:=by rw [HBB1.out];exact decide_eq_true (by omega)
 clear hb2
 subst hb1t
 obtain ⟨hnl,hsn,_⟩:=HN3.out (by omega)
 obtain ⟨hrl,hsr,hfr⟩:=HR4.out f3
 have HFR:Hid (∀ ad,ra=some ad→w.heap.size<ad.block):=Lib.hid fun ad e=>Nat.lt_of_lt_of_le (Nat.lt_of_lt_of_le HR2.out.lt HB3.out.size) (hfr ad e)
 have hnl:=hnl.symm
 have hrl:=hrl.symm
 subst hnl
 subst hrl
 obtain ⟨NML,hNML⟩:∃ x,x=(ys.drop (p+46)).take nn:=⟨_,rfl⟩
 obtain ⟨REM,hREM⟩:∃ x,x=(ys.drop (p+46+nn+xx)).take mm:=⟨_,rfl⟩
 have hNl:NML.length=nn:=by rw [hNML];exact Cu.win_len (by omega)
 have hRl:REM.length=mm:=by rw [hREM];exact Cu.win_len (by omega)
 rw [←hNML] at hsn
 rw [←hREM] at hsr
 obtain ⟨NM,hNM⟩:∃ x,x=txt NML:=⟨_,rfl⟩
 have hNs:NM.size≤1000000:=by rw [hNM,txt_size];omega
 have hcv:=conv_txt (hsn.below HB34.out) nn hNl.symm
 rw [←hNM] at hcv
 have HRW:Hid (rowR ys p=⟨NM,fl,me,ti,da,pk,pl,at_,xx,su,REM⟩):=Lib.hid (by
  obtain ⟨h1,h2,h3,h4,h5,h6,h7,h8,h9,h10,h11,h12⟩:=HFL.out
  rw [hNM,hNML,hREM,h1,h2,h3,h4,h5,h6,h7,h8,h9,h10,h12];rfl)
 have HE2:Hid (rowE ys p=if (di≠0∨pk=big∨pl=big∨at_=big∨fBad fl=true∨(me≠0∧me≠8)) then 17 else if nameF NM (fWide fl)=true then 19 else 0):=Lib.hid (by
  rw [HE.out,if_neg (by rw [HZ.out];omega),HRW.out]
  obtain ⟨h1,h2,h3,h4,h5,h6,h7,h8,h9,h10,h11,h12⟩:=HFL.out
  rw [←h11])
 have hQ4:=HQ.out.below HB4.out
 have k0:=(hQ4.cell 0).trans (show _=some (.string ⟨#[]⟩) from rfl)
 have k10:=(hQ4.cell 10).trans (show _=some (.slice none 0 0) from rfl)
 have f0:=hQ4.free 0
 have f10:=hQ4.free 10
 have HQ4:=Lib.hid hQ4
 have HSR:=Lib.hid hsr
 have HRL:=Lib.hid hRl
 clear hNML hREM hNl hNM hsn hsr hRl hQ4 hfr HFL HE
 go_upto_region 8 with (go_at_call 43;refine (zmust_yes 10 _).mono ?_;rintro e w' ⟨rfl,rfl⟩)
 obtain ⟨w5,hw5⟩:∃ w5,w5=(w4.setCell ⟨q,0,none⟩ (.string NM)).setCell ⟨q,10,none⟩ (.slice ra mm rc):=⟨_,rfl⟩
 have hQ5:Blk w5 q 49 #[.string NM,.int .i64 (fl:Nat),.int .i64 (me:Nat),.int .i64 (ti:Nat),.int .i64 (da:Nat),.int .i64 (pk:Nat),.int .i64 (pl:Nat),.int .i64 (at_:Nat),.int .i64 (xx:Nat),.int .u32 (su:Nat),.slice ra mm rc]:=by rw [hw5];exact (HQ4.out.setCell 0 _).setCell 10 _
 have ht5:Touch (fun k=>k=q) w4 w5:=by rw [hw5];exact ((Touch.refl (fun k=>k=q) w4).setCell ⟨q,0,none⟩ (.string NM) (.inl rfl)).setCell ⟨q,10,none⟩ (.slice ra mm rc) (.inl rfl)
 have hct5:Cu.Touch (fun k=>k=q) w4 w5:=⟨ht5.os,ht5.tape,ht5.output,ht5.size,ht5.block⟩
 have hwq:w.heap.size<q:=by omega
 have hb5:Below w.heap.size w w5:=by
  have h1:Touch (fun k=>w.heap.size≤k) w w4:=Touch.of_below HBW4.out
  exact (h1.trans (ht5.mono fun k hk=>by rw [hk];omega)).below (Nat.le_refl _) fun _ h=>h
 have hR5:Blk w5 w.heap.size 49 #[.string ⟨#[]⟩,.int .i64 0,.int .i64 0,.int .i64 0,.int .i64 0,.int .i64 0,.int .i64 0,.int .i64 0,.int .i64 0,.int .u32 0,.slice none 0 0]:=(HR2.out.below HB4.out).touch ht5 (fun h=>by omega)
 have hSR5:Cu.Sl w5 ra rc REM:=HSR.out.touch hct5 fun hne ad had hk=>by
  rcases HSR.out.src with h0 | ⟨b,off,h1,h2⟩
  ·exact hne h0
  ·rw [h1] at had
   obtain rfl:=Option.some.inj had
   simp only at hk
   subst hk
   have h3:=h2 0 (List.length_pos_iff.2 hne)
   rw [HQ4.out.cell] at h3
   exact no_u8 _ _ _ _ _ _ _ _ _ _ h3
 obtain ⟨j1,j2,j3,j4⟩:=HC.out w4 HB4.out
 have hg5:w5.heap[g]? = w4.heap[g]? := ht5.block g (World.block_lt_of_cell? w4 _ j1) (by omega)
 have cc10:=(World.cell?_of_block (a:=⟨g,10,none⟩) hg5).trans j1
 have cc11:=(World.cell?_of_block (a:=⟨g,11,none⟩) hg5).trans j2
 have cc12:=(World.cell?_of_block (a:=⟨g,12,none⟩) hg5).trans j3
 have cc13:=(World.cell?_of_block (a:=⟨g,13,none⟩) hg5).trans j4
 rw [←hw5]
 have HB5:=Lib.hid hb5
 have HQ5:=Lib.hid hQ5
 have HR5:=Lib.hid hR5
 have HSR5:=Lib.hid hSR5
 have HCC:=Lib.hid (And.intro cc10 (And.intro cc11 cc12))
 clear hw5 hQ5 ht5 hct5 hb5 hR5 hSR5 hg5 j1 j2 j3 j4 k0 k10 f0 f10 hcv HSR cc10 cc11 cc12
 have q1:=(HQ5.out.cell 1).trans (show _=some (.int .i64 (fl:Nat)) from rfl)
 have q2:=(HQ5.out.cell 2).trans (show _=some (.int .i64 (me:Nat)) from rfl)
 have q5:=(HQ5.out.cell 5).trans (show _=some (.int .i64 (pk:Nat)) from rfl)
 have q6:=(HQ5.out.cell 6).trans (show _=some (.int .i64 (pl:Nat)) from rfl)
 have q7:=(HQ5.out.cell 7).trans (show _=some (.int .i64 (at_:Nat)) from rfl)
 have q0:=(HQ5.out.cell 0).trans (show _=some (.string NM) from rfl)
 by_cases d0:di=0
 case neg=>
  have z0:((di:Int) == 0)=false:=by simp;omega
  have HRx:Hid (rowE ys p=17):=Lib.hid (by rw [HE2.out,if_pos (by exact .inl d0)])
  go_wp2_with (go_at_call 43;(first | (refine (zmust_yes 17 _).mono ?_;rintro e w' ⟨rfl,rfl⟩) | (refine (zmust_no 17 _).mono ?_;rintro e w' ⟨rfl,rfl⟩)))
  exact ⟨rfl,RowTo.bad 17 HRx.out (by decide) HB5.out⟩
 case pos=>
 subst d0
 by_cases d1:pk=big
 case pos=>
  have z1:((pk:Int) != 4294967295)=false:=by rw [d1];rfl
  have HRx:Hid (rowE ys p=17):=Lib.hid (by rw [HE2.out,if_pos (by exact .inr (.inl d1))])
  go_wp2_with (go_at_call 43;(first | (refine (zmust_yes 17 _).mono ?_;rintro e w' ⟨rfl,rfl⟩) | (refine (zmust_no 17 _).mono ?_;rintro e w' ⟨rfl,rfl⟩)))
  exact ⟨rfl,RowTo.bad 17 HRx.out (by decide) HB5.out⟩
 case neg=>
 have z1:((pk:Int) != 4294967295)=true:=by have:big=4294967295:=rfl;simp;omega
 by_cases d2:pl=big
 case pos=>
  have z2:((pl:Int) != 4294967295)=false:=by rw [d2];rfl
  have HRx:Hid (rowE ys p=17):=Lib.hid (by rw [HE2.out,if_pos (by exact .inr (.inr (.inl d2)))])
  go_wp2_with (go_at_call 43;(first | (refine (zmust_yes 17 _).mono ?_;rintro e w' ⟨rfl,rfl⟩) | (refine (zmust_no 17 _).mono ?_;rintro e w' ⟨rfl,rfl⟩)))
  exact ⟨rfl,RowTo.bad 17 HRx.out (by decide) HB5.out⟩
 case neg=>
 have z2:((pl:Int) != 4294967295)=true:=by have:big=4294967295:=rfl;simp;omega
 by_cases d3:at_=big
 case pos=>
  have z3:((at_:Int) != 4294967295)=false:=by rw [d3];rfl
  have HRx:Hid (rowE ys p=17):=Lib.hid (by rw [HE2.out,if_pos (by exact .inr (.inr (.inr (.inl d3))))])
  go_wp2_with (go_at_call 43;(first | (refine (zmust_yes 17 _).mono ?_;rintro e w' ⟨rfl,rfl⟩) | (refine (zmust_no 17 _).mono ?_;rintro e w' ⟨rfl,rfl⟩)))
  exact ⟨rfl,RowTo.bad 17 HRx.out (by decide) HB5.out⟩
 case neg=>
 have z3:((at_:Int) != 4294967295)=true:=by have:big=4294967295:=rfl;simp;omega
 by_cases d4:bits .andNot .i64 (fl:Int) 2062=0
 case neg=>
  have z4:(bits .andNot .i64 (fl:Int) 2062 == 0)=false:=by simpa using d4
  have HRx:Hid (rowE ys p=17):=Lib.hid (by rw [HE2.out,if_pos (by refine .inr (.inr (.inr (.inr (.inl ?_))));unfold fBad;simpa using d4)])
  go_wp2_with (go_at_call 43;(first | (refine (zmust_yes 17 _).mono ?_;rintro e w' ⟨rfl,rfl⟩) | (refine (zmust_no 17 _).mono ?_;rintro e w' ⟨rfl,rfl⟩)))
  exact ⟨rfl,RowTo.bad 17 HRx.out (by decide) HB5.out⟩
 case pos=>
 by_cases d5:me≠0∧me≠8
 case pos=>
  have z5:((me:Int) == 0)=false:=by simp;omega
  have z6:((me:Int) == 8)=false:=by simp;omega
  have HRx:Hid (rowE ys p=17):=Lib.hid (by rw [HE2.out,if_pos (by exact .inr (.inr (.inr (.inr (.inr d5)))))])
  go_wp2_with (go_at_call 43;(first | (refine (zmust_yes 17 _).mono ?_;rintro e w' ⟨rfl,rfl⟩) | (refine (zmust_no 17 _).mono ?_;rintro e w' ⟨rfl,rfl⟩)))
  exact ⟨rfl,RowTo.bad 17 HRx.out (by decide) HB5.out⟩
 case neg=>
 obtain ⟨NF,hNF⟩:∃ b,b=nameF NM (fWide fl):=⟨_,rfl⟩
 have HE3:Hid (rowE ys p=if NF=true then 19 else 0):=Lib.hid (by
  rw [HE2.out,if_neg,hNF]
  unfold fBad
  simp only [ne_eq,decide_not,Bool.not_eq_true',decide_eq_false_iff_not]
  intro h
  rcases h with h | h | h | h | h | h
  ·exact h trivial
  ·exact d1 h
  ·exact d2 h
  ·exact d3 h
  ·exact h d4
  ·exact d5 h)
 have K17:Hid (∀ b,b=fWide fl→Calls Tryz.prog 17 #[.string NM,.bool b] w5 fun e w'=>e = .returned (.bool NF)∧Below w5.heap.size w5 w'):=Lib.hid (by
  rintro b rfl
  rw [hNF]
  exact NameFault_any NM (fWide fl) w5 (HT.out.grow HB5.out) hNs)
 have z4:(bits .andNot .i64 (fl:Int) 2062 == 0)=true:=by simpa using d4
 have d6:me=0∨me=8:=by omega
 clear hNF d5
 rcases d6 with rfl | rfl
 case inl=>
  go_upto_region 12 with (go_at_call 43;refine (zmust_yes 17 _).mono ?_;rintro e w' ⟨rfl,rfl⟩)
  ·go_wp2_with (go_at_call 17;refine (K17.out _ (by unfold fWide;rw [Bool.eq_iff_iff];simp)).mono ?_;rintro e w6 ⟨rfl,hb6⟩;have HW6:=Lib.hid hb6;clear hb6)
   have HB6:=Lib.hid (HB5.out.trans (HW6.out.mono HB5.out.size))
   cases NF with
   | true=>
    have HRx:Hid (rowE ys p=19):=Lib.hid (by rw [HE3.out];rfl)
    go_wp2_with (go_at_call 43;refine (zmust_no 19 _).mono ?_;rintro e w' ⟨rfl,rfl⟩)
    exact ⟨rfl,RowTo.bad 19 HRx.out (by decide) HB6.out⟩
   | false=>
   have HRx:Hid (rowE ys p=0):=Lib.hid (by rw [HE3.out];rfl)
   have hQ6:=HQ5.out.below HW6.out
   have HR6:=Lib.hid (HR5.out.below HW6.out)
   have HSR6:=Lib.hid (HSR5.out.below HW6.out)
   obtain ⟨o10,o11,o12⟩:=HCC.out
   have v10:=(HW6.out.cell (World.block_lt_of_cell? w5 _ o10)).trans o10
   have v11:=(HW6.out.cell (World.block_lt_of_cell? w5 _ o11)).trans o11
   have v12:=(HW6.out.cell (World.block_lt_of_cell? w5 _ o12)).trans o12
   have y0:=(hQ6.cell 0).trans (show _=some (.string NM) from rfl)
   have y1:=(hQ6.cell 1).trans (show _=some (.int .i64 (fl:Nat)) from rfl)
   have y2:=(hQ6.cell 2).trans (show _=some (.int .i64 0) from rfl)
   have y3:=(hQ6.cell 3).trans (show _=some (.int .i64 (ti:Nat)) from rfl)
   have y4:=(hQ6.cell 4).trans (show _=some (.int .i64 (da:Nat)) from rfl)
   have y5:=(hQ6.cell 5).trans (show _=some (.int .i64 (pk:Nat)) from rfl)
   have y6:=(hQ6.cell 6).trans (show _=some (.int .i64 (pl:Nat)) from rfl)
   have y7:=(hQ6.cell 7).trans (show _=some (.int .i64 (at_:Nat)) from rfl)
   have y8:=(hQ6.cell 8).trans (show _=some (.int .i64 (xx:Nat)) from rfl)
   have y9:=(hQ6.cell 9).trans (show _=some (.int .u32 (su:Nat)) from rfl)
   have y10:=(hQ6.cell 10).trans (show _=some (.slice ra mm rc) from rfl)
   have x0:=(HR6.out.cell 0).trans (show _=some (.string ⟨#[]⟩) from rfl)
   have g0:=HR6.out.free 0
   have x1:=(HR6.out.cell 1).trans (show _=some (.int .i64 0) from rfl)
   have g1:=HR6.out.free 1
   have x2:=(HR6.out.cell 2).trans (show _=some (.int .i64 0) from rfl)
   have g2:=HR6.out.free 2
   have x3:=(HR6.out.cell 3).trans (show _=some (.int .i64 0) from rfl)
   have g3:=HR6.out.free 3
   have x4:=(HR6.out.cell 4).trans (show _=some (.int .i64 0) from rfl)
   have g4:=HR6.out.free 4
   have x5:=(HR6.out.cell 5).trans (show _=some (.int .i64 0) from rfl)
   have g5:=HR6.out.free 5
   have x6:=(HR6.out.cell 6).trans (show _=some (.int .i64 0) from rfl)
   have g6:=HR6.out.free 6
   have x7:=(HR6.out.cell 7).trans (show _=some (.int .i64 0) from rfl)
   have g7:=HR6.out.free 7
   have x8:=(HR6.out.cell 8).trans (show _=some (.int .i64 0) from rfl)
   have g8:=HR6.out.free 8
   have x9:=(HR6.out.cell 9).trans (show _=some (.int .u32 0) from rfl)
   have g9:=HR6.out.free 9
   have x10:=(HR6.out.cell 10).trans (show _=some (.slice none 0 0) from rfl)
   have g10:=HR6.out.free 10
   clear o10 o11 o12 q0 q1 q2 q5 q6 q7 cc13 z1 z2 z3 z4 K17 hQ6
   go_upto_region 13 with (go_at_call 43;refine (zmust_yes 19 _).mono ?_;rintro e w' ⟨rfl,rfl⟩)
   go_region
   have hfin:=set11 HR6.out (.string NM) (.int .i64 (fl:Nat)) (.int .i64 0) (.int .i64 (ti:Nat)) (.int .i64 (da:Nat)) (.int .i64 (pk:Nat)) (.int .i64 (pl:Nat)) (.int .i64 (at_:Nat)) (.int .i64 (xx:Nat)) (.int .u32 (su:Nat)) (.slice ra mm rc)
   have hE:Ending.returned (.tuple #[.agg #[.string NM,.int .i64 (fl:Nat),.int .i64 0,.int .i64 (ti:Nat),.int .i64 (da:Nat),.int .i64 (pk:Nat),.int .i64 (pl:Nat),.int .i64 (at_:Nat),.int .i64 (xx:Nat),.int .u32 (su:Nat),.slice ra mm rc],.int .i64 ((p:Int)+46+nn+xx+mm)]) = .returned (.tuple #[.agg (rcl (rowR ys p) ra rc),.int .i64 (rowZ ys p:Nat)]):=by
    rw [HRW.out,HZ.out,show ((p+46+nn+xx+mm:Nat):Int)=(p:Int)+46+nn+xx+mm by omega]
    show _=Ending.returned (.tuple #[.agg #[.string NM,.int .i64 (fl:Nat),.int .i64 0,.int .i64 (ti:Nat),.int .i64 (da:Nat),.int .i64 (pk:Nat),.int .i64 (pl:Nat),.int .i64 (at_:Nat),.int .i64 (xx:Nat),.int .u32 (su:Nat),.slice ra REM.length rc],_])
    rw [HRL.out]
   have hS7:=HSR6.out.touch (touch_cu hfin.2) (fun _ ad had hk=>by have:=HFR.out ad had;omega)
   have hB7:=touch_low HB6.out hfin.2 (Nat.le_refl _)
   have hRT:RowTo ys p w (.returned (.tuple #[.agg #[.string NM,.int .i64 (fl:Nat),.int .i64 0,.int .i64 (ti:Nat),.int .i64 (da:Nat),.int .i64 (pk:Nat),.int .i64 (pl:Nat),.int .i64 (at_:Nat),.int .i64 (xx:Nat),.int .u32 (su:Nat),.slice ra mm rc],.int .i64 ((p:Int)+46+nn+xx+mm)])) _:=
    ⟨hB7,.inr ⟨HRx.out,ra,rc,hE,by rw [HRW.out];exact hS7,fun ad had=>Nat.le_of_lt (HFR.out ad had)⟩⟩
   have HFIN:=Lib.hid hfin
   have HRT:=Lib.hid hRT
   clear hfin hE hS7 hB7 hRT
   go_wp2
   exact bodyPost_ret (res69 (by kernel_rfl) (by kernel_rfl) HFIN.out.1) rfl HRT.out
 case inr=>
  go_upto_region 12 with (go_at_call 43;refine (zmust_yes 17 _).mono ?_;rintro e w' ⟨rfl,rfl⟩)
  ·go_wp2_with (go_at_call 17;refine (K17.out _ (by unfold fWide;rw [Bool.eq_iff_iff];simp)).mono ?_;rintro e w6 ⟨rfl,hb6⟩;have HW6:=Lib.hid hb6;clear hb6)
   have HB6:=Lib.hid (HB5.out.trans (HW6.out.mono HB5.out.size))
   cases NF with
   | true=>
    have HRx:Hid (rowE ys p=19):=Lib.hid (by rw [HE3.out];rfl)
    go_wp2_with (go_at_call 43;refine (zmust_no 19 _).mono ?_;rintro e w' ⟨rfl,rfl⟩)
    exact ⟨rfl,RowTo.bad 19 HRx.out (by decide) HB6.out⟩
   | false=>
   have HRx:Hid (rowE ys p=0):=Lib.hid (by rw [HE3.out];rfl)
   have hQ6:=HQ5.out.below HW6.out
   have HR6:=Lib.hid (HR5.out.below HW6.out)
   have HSR6:=Lib.hid (HSR5.out.below HW6.out)
   obtain ⟨o10,o11,o12⟩:=HCC.out
   have v10:=(HW6.out.cell (World.block_lt_of_cell? w5 _ o10)).trans o10
   have v11:=(HW6.out.cell (World.block_lt_of_cell? w5 _ o11)).trans o11
   have v12:=(HW6.out.cell (World.block_lt_of_cell? w5 _ o12)).trans o12
   have y0:=(hQ6.cell 0).trans (show _=some (.string NM) from rfl)
   have y1:=(hQ6.cell 1).trans (show _=some (.int .i64 (fl:Nat)) from rfl)
   have y2:=(hQ6.cell 2).trans (show _=some (.int .i64 8) from rfl)
   have y3:=(hQ6.cell 3).trans (show _=some (.int .i64 (ti:Nat)) from rfl)
   have y4:=(hQ6.cell 4).trans (show _=some (.int .i64 (da:Nat)) from rfl)
   have y5:=(hQ6.cell 5).trans (show _=some (.int .i64 (pk:Nat)) from rfl)
   have y6:=(hQ6.cell 6).trans (show _=some (.int .i64 (pl:Nat)) from rfl)
   have y7:=(hQ6.cell 7).trans (show _=some (.int .i64 (at_:Nat)) from rfl)
   have y8:=(hQ6.cell 8).trans (show _=some (.int .i64 (xx:Nat)) from rfl)
   have y9:=(hQ6.cell 9).trans (show _=some (.int .u32 (su:Nat)) from rfl)
   have y10:=(hQ6.cell 10).trans (show _=some (.slice ra mm rc) from rfl)
   have x0:=(HR6.out.cell 0).trans (show _=some (.string ⟨#[]⟩) from rfl)
   have g0:=HR6.out.free 0
   have x1:=(HR6.out.cell 1).trans (show _=some (.int .i64 0) from rfl)
   have g1:=HR6.out.free 1
   have x2:=(HR6.out.cell 2).trans (show _=some (.int .i64 0) from rfl)
   have g2:=HR6.out.free 2
   have x3:=(HR6.out.cell 3).trans (show _=some (.int .i64 0) from rfl)
   have g3:=HR6.out.free 3
   have x4:=(HR6.out.cell 4).trans (show _=some (.int .i64 0) from rfl)
   have g4:=HR6.out.free 4
   have x5:=(HR6.out.cell 5).trans (show _=some (.int .i64 0) from rfl)
   have g5:=HR6.out.free 5
   have x6:=(HR6.out.cell 6).trans (show _=some (.int .i64 0) from rfl)
   have g6:=HR6.out.free 6
   have x7:=(HR6.out.cell 7).trans (show _=some (.int .i64 0) from rfl)
   have g7:=HR6.out.free 7
   have x8:=(HR6.out.cell 8).trans (show _=some (.int .i64 0) from rfl)
   have g8:=HR6.out.free 8
   have x9:=(HR6.out.cell 9).trans (show _=some (.int .u32 0) from rfl)
   have g9:=HR6.out.free 9
   have x10:=(HR6.out.cell 10).trans (show _=some (.slice none 0 0) from rfl)
   have g10:=HR6.out.free 10
   clear o10 o11 o12 q0 q1 q2 q5 q6 q7 cc13 z1 z2 z3 z4 K17 hQ6
   go_upto_region 13 with (go_at_call 43;refine (zmust_yes 19 _).mono ?_;rintro e w' ⟨rfl,rfl⟩)
   go_region
   have hfin:=set11 HR6.out (.string NM) (.int .i64 (fl:Nat)) (.int .i64 8) (.int .i64 (ti:Nat)) (.int .i64 (da:Nat)) (.int .i64 (pk:Nat)) (.int .i64 (pl:Nat)) (.int .i64 (at_:Nat)) (.int .i64 (xx:Nat)) (.int .u32 (su:Nat)) (.slice ra mm rc)
   have hE:Ending.returned (.tuple #[.agg #[.string NM,.int .i64 (fl:Nat),.int .i64 8,.int .i64 (ti:Nat),.int .i64 (da:Nat),.int .i64 (pk:Nat),.int .i64 (pl:Nat),.int .i64 (at_:Nat),.int .i64 (xx:Nat),.int .u32 (su:Nat),.slice ra mm rc],.int .i64 ((p:Int)+46+nn+xx+mm)]) = .returned (.tuple #[.agg (rcl (rowR ys p) ra rc),.int .i64 (rowZ ys p:Nat)]):=by
    rw [HRW.out,HZ.out,show ((p+46+nn+xx+mm:Nat):Int)=(p:Int)+46+nn+xx+mm by omega]
    show _=Ending.returned (.tuple #[.agg #[.string NM,.int .i64 (fl:Nat),.int .i64 8,.int .i64 (ti:Nat),.int .i64 (da:Nat),.int .i64 (pk:Nat),.int .i64 (pl:Nat),.int .i64 (at_:Nat),.int .i64 (xx:Nat),.int .u32 (su:Nat),.slice ra REM.length rc],_])
    rw [HRL.out]
   have hS7:=HSR6.out.touch (touch_cu hfin.2) (fun _ ad had hk=>by have:=HFR.out ad had;omega)
   have hB7:=touch_low HB6.out hfin.2 (Nat.le_refl _)
   have hRT:RowTo ys p w (.returned (.tuple #[.agg #[.string NM,.int .i64 (fl:Nat),.int .i64 8,.int .i64 (ti:Nat),.int .i64 (da:Nat),.int .i64 (pk:Nat),.int .i64 (pl:Nat),.int .i64 (at_:Nat),.int .i64 (xx:Nat),.int .u32 (su:Nat),.slice ra mm rc],.int .i64 ((p:Int)+46+nn+xx+mm)])) _:=
    ⟨hB7,.inr ⟨HRx.out,ra,rc,hE,by rw [HRW.out];exact hS7,fun ad had=>Nat.le_of_lt (HFR.out ad had)⟩⟩
   have HFIN:=Lib.hid hfin
   have HRT:=Lib.hid hRT
   clear hfin hE hS7 hB7 hRT
   go_wp2
   exact bodyPost_ret (res69 (by kernel_rfl) (by kernel_rfl) HFIN.out.1) rfl HRT.out
end
section
open Go.RowKit Go.Maps
theorem keyed9:Keyed Tryz.prog 9:=string_keyed Tryz.underlying9
theorem zero161 (w:World):(zeroValue 161).run Tryz.prog w = .ok (.agg #[]) w:=by kernel_rfl
structure Seen (L:List (List UInt8)) (D:DataW Unit):Prop where
 map:IsMap D
 has:∀ k:List UInt8,Maps.has D (.string k)=decide (k∈L)
theorem Seen.start:Seen [] (.map []):=⟨isMap_empty,fun _=>rfl⟩
theorem Seen.put {L:List (List UInt8)} {D:DataW Unit} (h:Seen L D) (k:List UInt8):Seen (L++[k]) (D.put (.string k) (.agg [])):=by
 refine ⟨h.map.put _ _,fun x=>?_⟩
 by_cases e:k=x
 ·subst e
  rw [has_put_same h.map (show WideAt.IsKeyLit (.string _) from trivial)];simp
 ·rw [has_put_other (by intro h';cases h';exact e rfl),h.has]
  simp [Ne.symm e]
theorem key9 (s:ByteArray) (hs:s.size≤1000000):keyOf Tryz.prog 9 (.string s)=some (.string s.data.toList):=by
 rw [keyOf_string Tryz.underlying9]
 have:s.size≤maxLen:=by unfold maxLen;omega
 simp [mapKey,Tryz.underlying9,this]
theorem foldT_list (s:ByteArray):(foldT s).data.toList=foldL s:=rfl
theorem foldT_size (s:ByteArray):(foldT s).size=s.size:=by
 show (s.data.toList.map lowU).toArray.size=s.data.size
 rw [List.size_toArray,List.length_map,Array.length_toList]
theorem turned_touch {w w':World} {b:Nat} (h:w.mapTurned w' b):Touch (fun k=>k=b) w w':=by
 have hg:=h.grown
 exact ⟨hg.os,hg.tape,hg.output,hg.size,fun k hk hs=>hg.block k hk (fun e=>hs (Option.some.inj e))⟩
theorem owns_below {w w':World} {mb n:Nat} {D:DataW Unit} (h:w.ownsMap Tryz.prog 9 unitElem mb n D) (hb:Below w.heap.size w w'):w'.ownsMap Tryz.prog 9 unitElem mb n D:=by
 obtain ⟨es,clock,hk,F,hs,hD⟩:=h
 exact ⟨es,clock,(hb.block mb (Array.getElem?_eq_some_iff.1 hk).1).trans hk,F,hs,hD⟩
def LikeTo (L:List (List UInt8)) (nm:ByteArray) (mb n:Nat) (w:World) (e:Ending) (w':World):Prop:=
 e = .returned (.bool (decide (foldL nm∈L)))∧(∃ D':DataW Unit,w'.ownsMap Tryz.prog 9 unitElem mb (n+1) D'∧Seen (L++[foldL nm]) D')∧Touch (fun k=>k=mb) w w'
set_option maxHeartbeats 1600000 in
theorem like_any (p mb n:Nat) (L:List (List UInt8)) (D:DataW Unit) (nm:ByteArray) (w:World) (hc:w.cell? ⟨p,0,none⟩=some (.map (some mb))) (hD:w.ownsMap Tryz.prog 9 unitElem mb n D) (hS:Seen L D) (hn:n≤100000) (hl:nm.size≤1000000) :
  Calls Tryz.prog 96 #[.string nm,.pointer (some ⟨p,0,none⟩)] w (LikeTo L nm mb n w):=by
 have K:=Lib.hid (Fold_any nm w hl)
 have HD:=Lib.hid hD
 have HS:=Lib.hid hS
 have hp:=World.block_lt_of_cell? w _ hc
 have hkey:=key9 (foldT nm) (by rw [foldT_size];exact hl)
 rw [foldT_list] at hkey
 have hsz:=foldT_size nm
 obtain ⟨F,hF⟩:∃ F,F=foldT nm:=⟨_,rfl⟩
 rw [←hF] at K hkey hsz
 have HH:Hid (Maps.has D (.string (foldL nm))=decide (foldL nm∈L)):=Lib.hid (hS.has _)
 clear hD hS hF
 go_enter Tryz.func96,Tryz.ntmps96
 go_wp2_with fail
 refine K.out.mono ?_
 rintro e w1 ⟨rfl,hb1⟩
 have HB1:=Lib.hid hb1
 have HD1:=Lib.hid (owns_below HD.out hb1)
 have hc1:=(hb1.cell hp).trans hc
 have hp1:p<w1.heap.size:=Nat.lt_of_lt_of_le hp hb1.size
 have HD2:=Lib.hid (owns_below (owns_below HD.out hb1) ((Below.refl _ w1).alloc (Nat.le_refl _) (.cells #[] 161)))
 have HBA:=Lib.hid (hb1.trans (((Below.refl _ w1).alloc (Nat.le_refl _) (.cells #[] 161)).mono hb1.size))
 clear hb1
 go_wp2_with (first
  | (at_lookup;refine wpList_lookup_own_unit _ rfl _ _ 160 rfl 9 161 keyed9 Tryz.underlying160 (zero161 _) mb n D rfl HD1.out _ _ rfl hkey ?_;rw [HH.out])
  | (at_mapUpdate;refine wpList_mapUpdate_in _ rfl _ _ _ 160 rfl 9 161 keyed9 Tryz.underlying160 unitElem mb n D rfl HD2.out (by unfold maxLen;omega) _ _ _ rfl rfl hkey (.agg []) [] unitElem_mk ?_;intro w2 hown2 hturn2;have HO:=Lib.hid hown2;have HTU:=Lib.hid hturn2;clear hown2 hturn2))
 go_ret
 exact ⟨rfl,⟨_,HO.out,HS.out.put _⟩,(Touch.of_below HBA.out).trans (turned_touch HTU.out)⟩
def NewLike (w:World) (e:Ending) (w':World):Prop:=
 e = .returned (.func (.func 96) #[] #[.pointer (some ⟨w.heap.size+1,0,none⟩)])∧w'.cell? ⟨w.heap.size+1,0,none⟩=some (.map (some w.heap.size))∧w'.ownsMap Tryz.prog 9 unitElem w.heap.size 0 (.map []:DataW Unit)∧Below w.heap.size w w'
theorem likeNames_any (w:World):Calls Tryz.prog 68 #[] w (NewLike w):=by
 have hmm := @run_makeMap Tryz.prog
 have hmf:∀ (fn:Fn) (first cap:Array Value) (w:World),(Instr.makeFunc fn first cap).run Tryz.prog w = .ok (.func fn first cap) w:=fun _ _ _ _=>rfl
 go_enter Tryz.func68,Tryz.ntmps68
 go_wp2
 go_ret
 refine ⟨rfl,?_,owns_below (World.ownsMap_made w Tryz.prog 9 unitElem) ((Below.refl _ _).alloc (Nat.le_refl _) _),((Below.refl _ w).alloc (Nat.le_refl _) _).alloc (by simp) _⟩
 rw [←alloc_size w (.map #[] 0)]
 exact (Blk.made _ _ _).cell 0
end
end Go.Proofs.YthbbpooobaahiaaGreatDoor.Zz
