/- Part 23. -/
import Derived.Test.YtbogfailbgbdoaaGreatDoorXB21
import Derived.Test.YtbogfailbgbdoaaGreatDoorXB22
set_option linter.unusedVariables false
set_option linter.unusedSimpArgs false
namespace Go.Proofs.YtbogfailbgbdoaaGreatDoor.K
set_option maxRecDepth 100000
section
open Go.RowKit Go.Proofs.YtbogfailbgbdoaaGreatDoor U
set_option maxHeartbeats 12800000 in
theorem rdecl_md3 (w:World) (p:Nat) (xs:List Nat) (k fr m kb:Nat) (n1 v1 n2 v2 n3 v3:List Nat) (h:Rq w p xs k fr 0) (hra:arR (xs.drop k) 0 = .ok ([(n1,v1),(n2,v2),(n3,v3)],m)) (hkb:kb=dR xs (k+m) 0) (hge:k+m≤kb) (hq:[63,62] <+: xs.drop kb) (hx7:xs.length≤700000) :
  Calls Tryz.prog 45 #[.pointer (some ⟨p,0,none⟩)] w (RdTo p xs k fr (mdE (mdP ([(n1,v1),(n2,v2),(n3,v3)])) ([(n1,v1),(n2,v2),(n3,v3)]) (kb+2-k)) w):=by
 have HBSX:=Lib.hid h.bs
 have hlenx:=h.len
 have hlt:=h.lt
 have a0:=lit_below w (.cells z44 58)
 have RB:=Lib.hid (h.below a0)
 have BB:=Lib.hid (Blk.made w 58 z44)
 have TB:=Lib.hid (Touch.of_below (S:=fun i=>i=p) a0)
 clear a0
 obtain ⟨l,hl⟩:∃ l:List At,l=[(n1,v1),(n2,v2),(n3,v3)]:=⟨_,rfl⟩
 rw [←hl] at hra ⊢
 have HL:=Lib.hid hl
 obtain ⟨RES,hRES⟩:∃ RES,RES=mdP l:=⟨_,rfl⟩
 rw [←hRES]
 have HRES:=Lib.hid hRES
 obtain ⟨N,hN⟩:∃ N,N=l.length:=⟨_,rfl⟩
 have HN:=Lib.hid hN
 have KA:Hid (∀ W,Rq W p xs k fr 0→Calls Tryz.prog 54 #[.pointer (some ⟨p,0,none⟩)] W (RaTo p xs k fr (.ok (l,m)) W)):=Lib.hid fun W hW=>by rw [←hra];exact qattrs W p xs k fr 0 hW
 unfold RaTo at KA
 simp only at KA
 rw [←hN] at KA
 have KB:Hid (∀ W,Rq W p xs (k+m) fr 0→Calls Tryz.prog 50 #[.pointer (some ⟨p,0,none⟩)] W (Rs p xs fr (.int .i64 (bV xs (k+m) 0:Nat)) kb 0 W)):=Lib.hid fun W hW=>by
  have:=qblanks W p xs (k+m) fr 0 hW
  rw [hkb];exact this
 generalize bV xs (k+m) 0=bv at KB
 have HV2:Hid (∀ y∈l,y.2.length≤3000000):=Lib.hid fun y hy=>by
  have:=raA_len (HBSX.out.drop k) (by rw [←arR_0];exact hra) y hy
  rw [List.length_drop] at this
  omega
 obtain ⟨k5,hk5⟩:∃ k5,k5=kb+2:=⟨_,rfl⟩
 have hqle:=pre_le (by simp) hq
 have KN:Hid (∀ W,Rq W p xs kb fr 0→Calls Tryz.prog 52 #[.pointer (some ⟨p,0,none⟩),.string ⟨#[63,62]⟩] W (Rs p xs fr (.tuple #[]) k5 0 W)):=Lib.hid fun W hW=>by
  have:=qneed W p xs kb fr 0 [63,62] ⟨#[63,62]⟩ rfl (bsl _ rfl) (by simp) hW
  rw [if_pos ⟨rfl,hq⟩,if_neg (fun e=>e.2 hq)] at this
  rw [hk5];exact this
 have HK5:Hid (k5=k+(kb+2-k)):=Lib.hid (by omega)
 have K22:Hid (∀ W,Rq W p xs k5 fr 0→Calls Tryz.prog 49 #[.pointer (some ⟨p,0,none⟩),.int .i64 22] W (Rs p xs fr (.tuple #[]) k5 22 W)):=Lib.hid fun W hW=>by
  have:=qfail W p xs k5 fr 0 22 hW
  rwa [if_pos rfl] at this
 have K17:Hid (∀ W,Rq W p xs k5 fr 0→Calls Tryz.prog 49 #[.pointer (some ⟨p,0,none⟩),.int .i64 17] W (Rs p xs fr (.tuple #[]) k5 17 W)):=Lib.hid fun W hW=>by
  have:=qfail W p xs k5 fr 0 17 hW
  rwa [if_pos rfl] at this
 have K22a:Hid (∀ W,Rq W p xs k5 fr 22→Calls Tryz.prog 49 #[.pointer (some ⟨p,0,none⟩),.int .i64 22] W (Rs p xs fr (.tuple #[]) k5 22 W)):=Lib.hid fun W hW=>by
  have:=qfail W p xs k5 fr 22 22 hW
  rwa [if_neg (by decide)] at this
 have K22b:Hid (∀ W,Rq W p xs k5 fr 17→Calls Tryz.prog 49 #[.pointer (some ⟨p,0,none⟩),.int .i64 22] W (Rs p xs fr (.tuple #[]) k5 17 W)):=Lib.hid fun W hW=>by
  have:=qfail W p xs k5 fr 17 22 hW
  rwa [if_neg (by decide)] at this
 clear h hra hkb hq hqle hk5 hge hRES
 have hN0:N=3:=hN.trans (congrArg List.length hl)
 clear hl hN
 have HN0:=Lib.hid hN0
 clear hN0
 go_enter Tryz.func45,Tryz.ntmps45
 go_upto_region 1 with fail
 refine gen_w0 fun W1 hW1=>?_
 have R1:Hid (Rq W1 p xs k fr 0):=Lib.hid (by rw [hW1];exact RB.out)
 have B0:Hid (Blk W1 w.heap.size 58 z44):=Lib.hid (by rw [hW1];exact BB.out)
 have T1:Hid (Touch (fun i=>i=p) w W1):=Lib.hid (by rw [hW1];exact TB.out)
 have hz:W1.heap.size=w.heap.size+1:=by rw [hW1];simp
 have c2:=R1.out.c2
 clear hW1
 have H1:Hid (Rq W1.drew p xs k fr 0):=Lib.hid (R1.out.drew 1)
 have H2:Hid (Rq (W1.alloc (.cells z44 58)).drew p xs k fr 0):=Lib.hid ((R1.out.below (lit_below W1 (.cells z44 58))).drew 1)
 have H3:Hid (Rq (W1.alloc (.cells z44 58)) p xs k fr 0):=Lib.hid (R1.out.below (lit_below W1 (.cells z44 58)))
 have HNE:Hid (¬p=W1.heap.size):=Lib.hid (by omega)
 have HZ:=Lib.hid hz
 clear hz
 have AF:Hid (∀ W k' er',Rq W p xs k' fr er'→(fun W=>W.cell? ⟨p,2,none⟩=some (.int .i64 (fr:Nat))) W):=Lib.hid fun W k' er' hW=>hW.c2
 go_cut [3] from 5 to 11 (fun s3 wx=>∃ (q:Nat) (sa:Option Addr) (sc:Nat),s3 = .pointer (some ⟨q,0,none⟩)∧Hid (Rd2 w wx p xs fr (k+m) 0 q (.slice sa N sc))∧Hid (RAtV wx (w.heap.size+1) (.slice sa N sc) l)∧Hid (∀ y∈l,Bs y.1∧Bs y.2)∧N≤256)
 case first=>
  go_region_held3 (fun W=>W.cell? ⟨p,2,none⟩=some (.int .i64 (fr:Nat))) (exact AF.out _ _ _ (by first | with_reducible exact R2.out | with_reducible exact H1.out | with_reducible exact H2.out | with_reducible exact R1.out | with_reducible exact H3.out | with_reducible exact R2a.out | with_reducible exact R2b.out | with_reducible exact R2s.out)) (first
   | (go_at_call 54;(with_reducible refine (KA.out W1.drew H1.out).mono ?_);rintro e w2 ⟨ht,sa,sc,rfl,hown,hs,hbs,hl2⟩;have R2:=Lib.hid hs;have T2:=Lib.hid ht;have HB2:=Lib.hid hbs;have HA2:=Lib.hid (show RAtV w2 (w.heap.size+1) (.slice sa N sc) l from ⟨sa,sc,by rw [←HN.out],by rw [←HN.out];exact World.ownsRow.mono hown (by show w.heap.size+1≤W1.heap.size;have:=HZ.out;omega)⟩);have R2a:=Lib.hid (hs.below (lit_below w2 (.cells #[.int .i64 0,.string ⟨#[]⟩,.string ⟨#[]⟩,.slice none 0 0,.bool false,.int .i64 0] 58)));have R2b:=Lib.hid (hs.below (lit_below w2 (.cells #[.int .i64 1,.string ⟨#[]⟩,.string ⟨#[]⟩,.slice sa N sc,.bool false,.int .i64 (fr:Nat)] 58)));clear ht hs hown hbs)
   | (go_at_call 54;(with_reducible refine (KA.out (W1.alloc (.cells z44 58)).drew H2.out).mono ?_);rintro e w2 ⟨ht,sa,sc,rfl,hown,hs,hbs,hl2⟩;have R2:=Lib.hid hs;have T2:=Lib.hid ht;have HB2:=Lib.hid hbs;have HA2:=Lib.hid (show RAtV w2 (w.heap.size+2) (.slice sa N sc) l from ⟨sa,sc,by rw [←HN.out],by rw [←HN.out];exact World.ownsRow.mono hown (by show w.heap.size+2≤(W1.alloc (.cells z44 58)).heap.size;rw [alloc_size];have:=HZ.out;omega)⟩);have R2s:=Lib.hid (hs.touch (st6_touch w2 W1.heap.size (.int .i64 1) (.string ⟨#[]⟩) (.string ⟨#[]⟩) (.slice sa N sc) (.bool false) (.int .i64 (fr:Nat))) HNE.out);have B2:=Lib.hid ((show Blk (W1.alloc (.cells z44 58)).drew W1.heap.size 58 z44 from Blk.made W1 58 z44).touch ht (fun e=>HNE.out e.symm));obtain ⟨d0,d1,d2,d3,d4,d5⟩:=blk6 B2.out;obtain ⟨g0,g1,g2,g3,g4,g5⟩:=blk6f B2.out;clear ht hs hown hbs))
  all_goals (go_wp2;go_meet)
  case rel=>exact ⟨_,_,_,rfl,Lib.hid (Rd2.mkA T1.out B0.out HZ.out hlt T2.out R2.out _),Lib.hid (HA2.out.touch (Touch.of_below (S:=fun _=>False) (lit_below w2 _)) (fun _ h=>h.elim)),HB2,hl2⟩
  case rel=>exact ⟨_,_,_,rfl,Lib.hid (Rd2.mkB T1.out B0.out HZ.out hlt T2.out R2.out _),Lib.hid ((HA2.out.touch (st6_touch _ _ _ _ _ _ _ _) (fun i hi=>by have:=HZ.out;omega)).mono (Nat.le_succ _)),HB2,hl2⟩
 case rest=>
  obtain ⟨q,sa,sc,rfl,R0,HA0,HB0,hN256⟩:=hcut
  clear R1 H1 H2 H3 HNE AF T1 B0 c2
  go_upto_region 7 with (first
   | (go_at_call 50;(with_reducible refine (KB.out _ R0.out.rq).mono ?_);rintro e w3 ⟨rfl,ht,hs⟩;have R3:=Lib.hid (R0.out.step ht hs);have HA3:=Lib.hid (HA0.out.touch ht (fun i hi=>by omega));clear ht hs)
   | (go_at_call 52;(with_reducible refine (KN.out _ R3.out.rq).mono ?_);rintro e w4 ⟨rfl,ht,hs⟩;have R4:=Lib.hid (R3.out.step ht hs);have HA4:=Lib.hid (HA3.out.touch ht (fun i hi=>by omega));clear ht hs;have e3:=R4.out.rq.c3;obtain ⟨d0,d1,d2,d3,d4,d5⟩:=blk6 R4.out.b1;obtain ⟨cz0,cz1,cz2,cz3,cz4,cz5⟩:=blk6 R4.out.b0;obtain ⟨cy0,cy1,cy2,cy3,cy4,cy5⟩:=blk6f R4.out.b0))
  have hN0:=HN0.out
  have hN1:l≠[]:=by rw [HL.out];simp
  obtain ⟨sa',sc',esl,hown⟩:=HA4.out
  injection esl with es1 es2 es3
  subst es1 es3
  have hcap:l.length≤sc∧sc≤maxLen:=by
   rcases hown.2 with ⟨e1,e2⟩ | ⟨g,cap,cur,e1,e2,e3,e4,e5,_⟩
   ·have:=List.length_pos_iff.2 hN1;omega
   ·injection e1 with e1 _ e6
    subst e1 e6
    exact ⟨e4,e5⟩
  obtain ⟨g,rfl,hgB,hcs⟩:=row60 hown hN1
  have HK:Hid (∀ W,Touch (fun i=>i=p) w4 W→W.cell? ⟨g,0,none⟩=some (.string (txt n1))∧W.cell? ⟨g,1,none⟩=some (.string (txt v1))∧W.cell? ⟨g,2,none⟩=some (.string (txt n2))∧W.cell? ⟨g,3,none⟩=some (.string (txt v2))∧W.cell? ⟨g,4,none⟩=some (.string (txt n3))∧W.cell? ⟨g,5,none⟩=some (.string (txt v3))):=Lib.hid fun W hT=>by
   have ho:=ownsRow_touch hown hT (fun i hi he=>by have:=hown.lt i hi;omega)
   obtain ⟨g',eg,_,hcs⟩:=row60 ho hN1
   injection eg with eg
   injection eg with eg
   subst eg
   exact ⟨(hcs 0 (n1,v1) (by rw [HL.out];rfl)).1,(hcs 0 (n1,v1) (by rw [HL.out];rfl)).2,(hcs 1 (n2,v2) (by rw [HL.out];rfl)).1,(hcs 1 (n2,v2) (by rw [HL.out];rfl)).2,(hcs 2 (n3,v3) (by rw [HL.out];rfl)).1,(hcs 2 (n3,v3) (by rw [HL.out];rfl)).2⟩
  have hc1:3≤sc:=by have:=hcap.1;rw [←es2,hN0] at this;exact this
  have hc2:=hcap.2
  clear es2 hN1 hcap
  have bb1:=HB0.out (n1,v1) (by rw [HL.out];simp)
  have bb2:=HB0.out (n2,v2) (by rw [HL.out];simp)
  have bb3:=HB0.out (n3,v3) (by rw [HL.out];simp)
  have s1:((txt n1).toList=[118,101,114,115,105,111,110])=(n1=[118,101,114,115,105,111,110]):=txt_is bb1.1 [118,101,114,115,105,111,110] (bsl _ rfl)
  have s2:((txt v1).toList=[49,46,48])=(v1=[49,46,48]):=txt_is bb1.2 [49,46,48] (bsl _ rfl)
  have s3:((txt n2).toList=[101,110,99,111,100,105,110,103])=(n2=[101,110,99,111,100,105,110,103]):=txt_is bb2.1 [101,110,99,111,100,105,110,103] (bsl _ rfl)
  have s4:((txt n2).toList=[115,116,97,110,100,97,108,111,110,101])=(n2=[115,116,97,110,100,97,108,111,110,101]):=txt_is bb2.1 [115,116,97,110,100,97,108,111,110,101] (bsl _ rfl)
  have s5:((txt v2).toList=[121,101,115])=(v2=[121,101,115]):=txt_is bb2.2 [121,101,115] (bsl _ rfl)
  have s6:((txt v2).toList=[110,111])=(v2=[110,111]):=txt_is bb2.2 [110,111] (bsl _ rfl)
  have s7:((txt n3).toList=[115,116,97,110,100,97,108,111,110,101])=(n3=[115,116,97,110,100,97,108,111,110,101]):=txt_is bb3.1 [115,116,97,110,100,97,108,111,110,101] (bsl _ rfl)
  have s8:((txt v3).toList=[121,101,115])=(v3=[121,101,115]):=txt_is bb3.2 [121,101,115] (bsl _ rfl)
  have s9:((txt v3).toList=[110,111])=(v3=[110,111]):=txt_is bb3.2 [110,111] (bsl _ rfl)
  have hlow:=low_bs bb2.2
  have s10:((txt (v2.map low)).toList=[117,116,102,45,56])=(v2.map low=[117,116,102,45,56]):=txt_is hlow [117,116,102,45,56] (bsl _ rfl)
  have HMD:Hid (RES=(if (txt n1).toList=[118,101,114,115,105,111,110]∧(txt v1).toList=[49,46,48] then (if (txt n2).toList=[101,110,99,111,100,105,110,103] then (if (txt (v2.map low)).toList=[117,116,102,45,56] then (if (txt n3).toList=[115,116,97,110,100,97,108,111,110,101] then (if (txt v3).toList=[121,101,115]∨(txt v3).toList=[110,111] then none else some 22) else some 22) else some 17) else some 22) else some 22)):=Lib.hid (by
   rw [HRES.out,HL.out]
   simp only [s1,s2,s3,s4,s5,s6,s7,s8,s9,s10]
   unfold mdP md1 md2 md3
   simp only [ite_self])
  clear s1 s2 s3 s4 s5 s6 s7 s8 s9 s10
  have RX:=R4
  have TX:Hid (Touch (fun i=>i=p) w4 w4):=Lib.hid (Touch.refl _ _)
  have H256:=hN256
  have HA:Hid (∀ W,Touch (fun i=>i=p) w4 W→RAtV W (w.heap.size+1) (.slice (some ⟨g,0,none⟩) N sc) l):=Lib.hid fun W hT=>HA4.out.touch hT (fun i hi=>by omega)
  have HL256:Hid (l.length≤256):=Lib.hid (by rw [←HN.out];exact hN256)
  obtain ⟨c0,c1,c2,c3,c4,c5⟩:=HK.out _ TX.out
  have KS:=Lib.hid fun W=>rsmall_any v2 _ rfl bb2.2 W (HV2.out (n2,v2) (by rw [HL.out];simp))
  obtain ⟨TL,hTL⟩:∃ TL,TL=txt (v2.map low):=⟨_,rfl⟩
  rw [←hTL] at KS HMD
  clear hTL hlow
  generalize txt n1=TN1 at HK HMD c0
  generalize txt v1=TV1 at HK HMD c1
  generalize txt n2=TN2 at HK HMD c2
  generalize txt v2=TV2 at HK HMD c3 KS
  generalize txt n3=TN3 at HK HMD c4
  generalize txt v3=TV3 at HK HMD c5
  subst hN0
  clear hcs hown bb1 bb2 hN256
  clear bb3
  go_wp2_with (first
   | (go_at_call 49;(with_reducible refine (K22.out _ RX.out.rq).mono ?_);rintro e w5 ⟨rfl,ht,hs⟩;have RX:=Lib.hid (RX.out.step ht hs);have TX:=Lib.hid (TX.out.trans ht);clear ht hs;obtain ⟨c0,c1,c2,c3,c4,c5⟩:=HK.out _ TX.out;obtain ⟨d0,d1,d2,d3,d4,d5⟩:=blk6 RX.out.b1;obtain ⟨cz0,cz1,cz2,cz3,cz4,cz5⟩:=blk6 RX.out.b0;obtain ⟨cy0,cy1,cy2,cy3,cy4,cy5⟩:=blk6f RX.out.b0)
   | (go_at_call 49;(with_reducible refine (K17.out _ RX.out.rq).mono ?_);rintro e w5 ⟨rfl,ht,hs⟩;have RX:=Lib.hid (RX.out.step ht hs);have TX:=Lib.hid (TX.out.trans ht);clear ht hs;obtain ⟨c0,c1,c2,c3,c4,c5⟩:=HK.out _ TX.out;obtain ⟨d0,d1,d2,d3,d4,d5⟩:=blk6 RX.out.b1;obtain ⟨cz0,cz1,cz2,cz3,cz4,cz5⟩:=blk6 RX.out.b0;obtain ⟨cy0,cy1,cy2,cy3,cy4,cy5⟩:=blk6f RX.out.b0)
   | (go_at_call 49;(with_reducible refine (K22a.out _ RX.out.rq).mono ?_);rintro e w5 ⟨rfl,ht,hs⟩;have RX:=Lib.hid (RX.out.step ht hs);have TX:=Lib.hid (TX.out.trans ht);clear ht hs;obtain ⟨c0,c1,c2,c3,c4,c5⟩:=HK.out _ TX.out;obtain ⟨d0,d1,d2,d3,d4,d5⟩:=blk6 RX.out.b1;obtain ⟨cz0,cz1,cz2,cz3,cz4,cz5⟩:=blk6 RX.out.b0;obtain ⟨cy0,cy1,cy2,cy3,cy4,cy5⟩:=blk6f RX.out.b0)
   | (go_at_call 49;(with_reducible refine (K22b.out _ RX.out.rq).mono ?_);rintro e w5 ⟨rfl,ht,hs⟩;have RX:=Lib.hid (RX.out.step ht hs);have TX:=Lib.hid (TX.out.trans ht);clear ht hs;obtain ⟨c0,c1,c2,c3,c4,c5⟩:=HK.out _ TX.out;obtain ⟨d0,d1,d2,d3,d4,d5⟩:=blk6 RX.out.b1;obtain ⟨cz0,cz1,cz2,cz3,cz4,cz5⟩:=blk6 RX.out.b0;obtain ⟨cy0,cy1,cy2,cy3,cy4,cy5⟩:=blk6f RX.out.b0)
   | (go_at_call 48;(with_reducible refine (KS.out _).mono ?_);rintro e w5 ⟨rfl,hb⟩;have ht:=Touch.of_below (S:=fun i=>i=p) hb;have hs:=RX.out.rq.below hb;clear hb;have RX:=Lib.hid (RX.out.step ht hs);have TX:=Lib.hid (TX.out.trans ht);clear ht hs;obtain ⟨c0,c1,c2,c3,c4,c5⟩:=HK.out _ TX.out;obtain ⟨d0,d1,d2,d3,d4,d5⟩:=blk6 RX.out.b1;obtain ⟨cz0,cz1,cz2,cz3,cz4,cz5⟩:=blk6 RX.out.b0;obtain ⟨cy0,cy1,cy2,cy3,cy4,cy5⟩:=blk6f RX.out.b0))
  all_goals try (have hsc:sc=3:=(by assumption);subst hsc)
  all_goals refine bodyPost_ret (res45 rfl (st6_any RX.out.b0 _ _ _ _ _ _)) rfl ?_
  all_goals refine RX.out.fin _ _ _ HK5.out (HA.out _ TX.out) HL256.out ?_
  all_goals (have hm:=HMD.out;clear HMD HK HA HA0 HA3 HA4 R0 R3 R4 RX TX HB0 K22 K17 K22a K22b KB KN KA HL HRES HBSX HV2 RB BB TB)
  all_goals clear cz0 cz1 cz2 cz3 cz4 cz5 cy0 cy1 cy2 cy3 cy4 cy5 d0 d1 d2 d3 d4 d5 c0 c1 c2 c3 c4 c5
  all_goals first
   | exact .inl ⟨by simp_all,rfl⟩
   | exact .inr ⟨by simp_all,by decide⟩
set_option maxHeartbeats 12800000 in
theorem rdecl_md4 (w:World) (p:Nat) (xs:List Nat) (k fr m kb:Nat) (n1 v1 n2 v2 n3 v3:List Nat) (x4:At) (r4:List At) (h:Rq w p xs k fr 0) (hra:arR (xs.drop k) 0 = .ok ((n1,v1)::(n2,v2)::(n3,v3)::x4::r4,m)) (hkb:kb=dR xs (k+m) 0) (hge:k+m≤kb) (hq:[63,62] <+: xs.drop kb) (hx7:xs.length≤700000) :
  Calls Tryz.prog 45 #[.pointer (some ⟨p,0,none⟩)] w (RdTo p xs k fr (mdE (mdP ((n1,v1)::(n2,v2)::(n3,v3)::x4::r4)) ((n1,v1)::(n2,v2)::(n3,v3)::x4::r4) (kb+2-k)) w):=by
 have HBSX:=Lib.hid h.bs
 have hlenx:=h.len
 have hlt:=h.lt
 have a0:=lit_below w (.cells z44 58)
 have RB:=Lib.hid (h.below a0)
 have BB:=Lib.hid (Blk.made w 58 z44)
 have TB:=Lib.hid (Touch.of_below (S:=fun i=>i=p) a0)
 clear a0
 obtain ⟨l,hl⟩:∃ l:List At,l=(n1,v1)::(n2,v2)::(n3,v3)::x4::r4:=⟨_,rfl⟩
 rw [←hl] at hra ⊢
 have HL:=Lib.hid hl
 obtain ⟨RES,hRES⟩:∃ RES,RES=mdP l:=⟨_,rfl⟩
 rw [←hRES]
 have HRES:=Lib.hid hRES
 obtain ⟨N,hN⟩:∃ N,N=l.length:=⟨_,rfl⟩
 have HN:=Lib.hid hN
 have KA:Hid (∀ W,Rq W p xs k fr 0→Calls Tryz.prog 54 #[.pointer (some ⟨p,0,none⟩)] W (RaTo p xs k fr (.ok (l,m)) W)):=Lib.hid fun W hW=>by rw [←hra];exact qattrs W p xs k fr 0 hW
 unfold RaTo at KA
 simp only at KA
 rw [←hN] at KA
 have KB:Hid (∀ W,Rq W p xs (k+m) fr 0→Calls Tryz.prog 50 #[.pointer (some ⟨p,0,none⟩)] W (Rs p xs fr (.int .i64 (bV xs (k+m) 0:Nat)) kb 0 W)):=Lib.hid fun W hW=>by
  have:=qblanks W p xs (k+m) fr 0 hW
  rw [hkb];exact this
 generalize bV xs (k+m) 0=bv at KB
 have HV2:Hid (∀ y∈l,y.2.length≤3000000):=Lib.hid fun y hy=>by
  have:=raA_len (HBSX.out.drop k) (by rw [←arR_0];exact hra) y hy
  rw [List.length_drop] at this
  omega
 obtain ⟨k5,hk5⟩:∃ k5,k5=kb+2:=⟨_,rfl⟩
 have hqle:=pre_le (by simp) hq
 have KN:Hid (∀ W,Rq W p xs kb fr 0→Calls Tryz.prog 52 #[.pointer (some ⟨p,0,none⟩),.string ⟨#[63,62]⟩] W (Rs p xs fr (.tuple #[]) k5 0 W)):=Lib.hid fun W hW=>by
  have:=qneed W p xs kb fr 0 [63,62] ⟨#[63,62]⟩ rfl (bsl _ rfl) (by simp) hW
  rw [if_pos ⟨rfl,hq⟩,if_neg (fun e=>e.2 hq)] at this
  rw [hk5];exact this
 have HK5:Hid (k5=k+(kb+2-k)):=Lib.hid (by omega)
 have K22:Hid (∀ W,Rq W p xs k5 fr 0→Calls Tryz.prog 49 #[.pointer (some ⟨p,0,none⟩),.int .i64 22] W (Rs p xs fr (.tuple #[]) k5 22 W)):=Lib.hid fun W hW=>by
  have:=qfail W p xs k5 fr 0 22 hW
  rwa [if_pos rfl] at this
 have K17:Hid (∀ W,Rq W p xs k5 fr 0→Calls Tryz.prog 49 #[.pointer (some ⟨p,0,none⟩),.int .i64 17] W (Rs p xs fr (.tuple #[]) k5 17 W)):=Lib.hid fun W hW=>by
  have:=qfail W p xs k5 fr 0 17 hW
  rwa [if_pos rfl] at this
 have K22a:Hid (∀ W,Rq W p xs k5 fr 22→Calls Tryz.prog 49 #[.pointer (some ⟨p,0,none⟩),.int .i64 22] W (Rs p xs fr (.tuple #[]) k5 22 W)):=Lib.hid fun W hW=>by
  have:=qfail W p xs k5 fr 22 22 hW
  rwa [if_neg (by decide)] at this
 have K22b:Hid (∀ W,Rq W p xs k5 fr 17→Calls Tryz.prog 49 #[.pointer (some ⟨p,0,none⟩),.int .i64 22] W (Rs p xs fr (.tuple #[]) k5 17 W)):=Lib.hid fun W hW=>by
  have:=qfail W p xs k5 fr 17 22 hW
  rwa [if_neg (by decide)] at this
 clear h hra hkb hq hqle hk5 hge hRES
 have hN0:N=r4.length+4:=hN.trans (congrArg List.length hl)
 clear hl hN
 have HN0:=Lib.hid hN0
 clear hN0
 go_enter Tryz.func45,Tryz.ntmps45
 go_upto_region 1 with fail
 refine gen_w0 fun W1 hW1=>?_
 have R1:Hid (Rq W1 p xs k fr 0):=Lib.hid (by rw [hW1];exact RB.out)
 have B0:Hid (Blk W1 w.heap.size 58 z44):=Lib.hid (by rw [hW1];exact BB.out)
 have T1:Hid (Touch (fun i=>i=p) w W1):=Lib.hid (by rw [hW1];exact TB.out)
 have hz:W1.heap.size=w.heap.size+1:=by rw [hW1];simp
 have c2:=R1.out.c2
 clear hW1
 have H1:Hid (Rq W1.drew p xs k fr 0):=Lib.hid (R1.out.drew 1)
 have H2:Hid (Rq (W1.alloc (.cells z44 58)).drew p xs k fr 0):=Lib.hid ((R1.out.below (lit_below W1 (.cells z44 58))).drew 1)
 have H3:Hid (Rq (W1.alloc (.cells z44 58)) p xs k fr 0):=Lib.hid (R1.out.below (lit_below W1 (.cells z44 58)))
 have HNE:Hid (¬p=W1.heap.size):=Lib.hid (by omega)
 have HZ:=Lib.hid hz
 clear hz
 have AF:Hid (∀ W k' er',Rq W p xs k' fr er'→(fun W=>W.cell? ⟨p,2,none⟩=some (.int .i64 (fr:Nat))) W):=Lib.hid fun W k' er' hW=>hW.c2
 go_cut [3] from 5 to 11 (fun s3 wx=>∃ (q:Nat) (sa:Option Addr) (sc:Nat),s3 = .pointer (some ⟨q,0,none⟩)∧Hid (Rd2 w wx p xs fr (k+m) 0 q (.slice sa N sc))∧Hid (RAtV wx (w.heap.size+1) (.slice sa N sc) l)∧Hid (∀ y∈l,Bs y.1∧Bs y.2)∧N≤256)
 case first=>
  go_region_held3 (fun W=>W.cell? ⟨p,2,none⟩=some (.int .i64 (fr:Nat))) (exact AF.out _ _ _ (by first | with_reducible exact R2.out | with_reducible exact H1.out | with_reducible exact H2.out | with_reducible exact R1.out | with_reducible exact H3.out | with_reducible exact R2a.out | with_reducible exact R2b.out | with_reducible exact R2s.out)) (first
   | (go_at_call 54;(with_reducible refine (KA.out W1.drew H1.out).mono ?_);rintro e w2 ⟨ht,sa,sc,rfl,hown,hs,hbs,hl2⟩;have R2:=Lib.hid hs;have T2:=Lib.hid ht;have HB2:=Lib.hid hbs;have HA2:=Lib.hid (show RAtV w2 (w.heap.size+1) (.slice sa N sc) l from ⟨sa,sc,by rw [←HN.out],by rw [←HN.out];exact World.ownsRow.mono hown (by show w.heap.size+1≤W1.heap.size;have:=HZ.out;omega)⟩);have R2a:=Lib.hid (hs.below (lit_below w2 (.cells #[.int .i64 0,.string ⟨#[]⟩,.string ⟨#[]⟩,.slice none 0 0,.bool false,.int .i64 0] 58)));have R2b:=Lib.hid (hs.below (lit_below w2 (.cells #[.int .i64 1,.string ⟨#[]⟩,.string ⟨#[]⟩,.slice sa N sc,.bool false,.int .i64 (fr:Nat)] 58)));clear ht hs hown hbs)
   | (go_at_call 54;(with_reducible refine (KA.out (W1.alloc (.cells z44 58)).drew H2.out).mono ?_);rintro e w2 ⟨ht,sa,sc,rfl,hown,hs,hbs,hl2⟩;have R2:=Lib.hid hs;have T2:=Lib.hid ht;have HB2:=Lib.hid hbs;have HA2:=Lib.hid (show RAtV w2 (w.heap.size+2) (.slice sa N sc) l from ⟨sa,sc,by rw [←HN.out],by rw [←HN.out];exact World.ownsRow.mono hown (by show w.heap.size+2≤(W1.alloc (.cells z44 58)).heap.size;rw [alloc_size];have:=HZ.out;omega)⟩);have R2s:=Lib.hid (hs.touch (st6_touch w2 W1.heap.size (.int .i64 1) (.string ⟨#[]⟩) (.string ⟨#[]⟩) (.slice sa N sc) (.bool false) (.int .i64 (fr:Nat))) HNE.out);have B2:=Lib.hid ((show Blk (W1.alloc (.cells z44 58)).drew W1.heap.size 58 z44 from Blk.made W1 58 z44).touch ht (fun e=>HNE.out e.symm));obtain ⟨d0,d1,d2,d3,d4,d5⟩:=blk6 B2.out;obtain ⟨g0,g1,g2,g3,g4,g5⟩:=blk6f B2.out;clear ht hs hown hbs))
  all_goals (go_wp2;go_meet)
  case rel=>exact ⟨_,_,_,rfl,Lib.hid (Rd2.mkA T1.out B0.out HZ.out hlt T2.out R2.out _),Lib.hid (HA2.out.touch (Touch.of_below (S:=fun _=>False) (lit_below w2 _)) (fun _ h=>h.elim)),HB2,hl2⟩
  case rel=>exact ⟨_,_,_,rfl,Lib.hid (Rd2.mkB T1.out B0.out HZ.out hlt T2.out R2.out _),Lib.hid ((HA2.out.touch (st6_touch _ _ _ _ _ _ _ _) (fun i hi=>by have:=HZ.out;omega)).mono (Nat.le_succ _)),HB2,hl2⟩
 case rest=>
  obtain ⟨q,sa,sc,rfl,R0,HA0,HB0,hN256⟩:=hcut
  clear R1 H1 H2 H3 HNE AF T1 B0 c2
  go_upto_region 7 with (first
   | (go_at_call 50;(with_reducible refine (KB.out _ R0.out.rq).mono ?_);rintro e w3 ⟨rfl,ht,hs⟩;have R3:=Lib.hid (R0.out.step ht hs);have HA3:=Lib.hid (HA0.out.touch ht (fun i hi=>by omega));clear ht hs)
   | (go_at_call 52;(with_reducible refine (KN.out _ R3.out.rq).mono ?_);rintro e w4 ⟨rfl,ht,hs⟩;have R4:=Lib.hid (R3.out.step ht hs);have HA4:=Lib.hid (HA3.out.touch ht (fun i hi=>by omega));clear ht hs;have e3:=R4.out.rq.c3;obtain ⟨d0,d1,d2,d3,d4,d5⟩:=blk6 R4.out.b1;obtain ⟨cz0,cz1,cz2,cz3,cz4,cz5⟩:=blk6 R4.out.b0;obtain ⟨cy0,cy1,cy2,cy3,cy4,cy5⟩:=blk6f R4.out.b0))
  have hN0:=HN0.out
  have hN1:l≠[]:=by rw [HL.out];simp
  obtain ⟨sa',sc',esl,hown⟩:=HA4.out
  injection esl with es1 es2 es3
  subst es1 es3
  have hcap:l.length≤sc∧sc≤maxLen:=by
   rcases hown.2 with ⟨e1,e2⟩ | ⟨g,cap,cur,e1,e2,e3,e4,e5,_⟩
   ·have:=List.length_pos_iff.2 hN1;omega
   ·injection e1 with e1 _ e6
    subst e1 e6
    exact ⟨e4,e5⟩
  obtain ⟨g,rfl,hgB,hcs⟩:=row60 hown hN1
  have HK:Hid (∀ W,Touch (fun i=>i=p) w4 W→W.cell? ⟨g,0,none⟩=some (.string (txt n1))∧W.cell? ⟨g,1,none⟩=some (.string (txt v1))∧W.cell? ⟨g,2,none⟩=some (.string (txt n2))∧W.cell? ⟨g,3,none⟩=some (.string (txt v2))∧W.cell? ⟨g,4,none⟩=some (.string (txt n3))∧W.cell? ⟨g,5,none⟩=some (.string (txt v3))):=Lib.hid fun W hT=>by
   have ho:=ownsRow_touch hown hT (fun i hi he=>by have:=hown.lt i hi;omega)
   obtain ⟨g',eg,_,hcs⟩:=row60 ho hN1
   injection eg with eg
   injection eg with eg
   subst eg
   exact ⟨(hcs 0 (n1,v1) (by rw [HL.out];rfl)).1,(hcs 0 (n1,v1) (by rw [HL.out];rfl)).2,(hcs 1 (n2,v2) (by rw [HL.out];rfl)).1,(hcs 1 (n2,v2) (by rw [HL.out];rfl)).2,(hcs 2 (n3,v3) (by rw [HL.out];rfl)).1,(hcs 2 (n3,v3) (by rw [HL.out];rfl)).2⟩
  have hc1:r4.length+4≤sc:=by have:=hcap.1;rw [←es2,hN0] at this;exact this
  have hc2:=hcap.2
  clear es2 hN1 hcap
  have bb1:=HB0.out (n1,v1) (by rw [HL.out];simp)
  have bb2:=HB0.out (n2,v2) (by rw [HL.out];simp)
  have bb3:=HB0.out (n3,v3) (by rw [HL.out];simp)
  have s1:((txt n1).toList=[118,101,114,115,105,111,110])=(n1=[118,101,114,115,105,111,110]):=txt_is bb1.1 [118,101,114,115,105,111,110] (bsl _ rfl)
  have s2:((txt v1).toList=[49,46,48])=(v1=[49,46,48]):=txt_is bb1.2 [49,46,48] (bsl _ rfl)
  have s3:((txt n2).toList=[101,110,99,111,100,105,110,103])=(n2=[101,110,99,111,100,105,110,103]):=txt_is bb2.1 [101,110,99,111,100,105,110,103] (bsl _ rfl)
  have s4:((txt n2).toList=[115,116,97,110,100,97,108,111,110,101])=(n2=[115,116,97,110,100,97,108,111,110,101]):=txt_is bb2.1 [115,116,97,110,100,97,108,111,110,101] (bsl _ rfl)
  have s5:((txt v2).toList=[121,101,115])=(v2=[121,101,115]):=txt_is bb2.2 [121,101,115] (bsl _ rfl)
  have s6:((txt v2).toList=[110,111])=(v2=[110,111]):=txt_is bb2.2 [110,111] (bsl _ rfl)
  have s7:((txt n3).toList=[115,116,97,110,100,97,108,111,110,101])=(n3=[115,116,97,110,100,97,108,111,110,101]):=txt_is bb3.1 [115,116,97,110,100,97,108,111,110,101] (bsl _ rfl)
  have s8:((txt v3).toList=[121,101,115])=(v3=[121,101,115]):=txt_is bb3.2 [121,101,115] (bsl _ rfl)
  have s9:((txt v3).toList=[110,111])=(v3=[110,111]):=txt_is bb3.2 [110,111] (bsl _ rfl)
  have hlow:=low_bs bb2.2
  have s10:((txt (v2.map low)).toList=[117,116,102,45,56])=(v2.map low=[117,116,102,45,56]):=txt_is hlow [117,116,102,45,56] (bsl _ rfl)
  have HMD:Hid (RES=(if (txt n1).toList=[118,101,114,115,105,111,110]∧(txt v1).toList=[49,46,48] then (if (txt n2).toList=[101,110,99,111,100,105,110,103] then (if (txt (v2.map low)).toList=[117,116,102,45,56] then some 22 else some 17) else some 22) else some 22)):=Lib.hid (by
   rw [HRES.out,HL.out]
   simp only [s1,s2,s3,s4,s5,s6,s7,s8,s9,s10]
   unfold mdP md1 md2 md3
   simp only [ite_self])
  clear s1 s2 s3 s4 s5 s6 s7 s8 s9 s10
  have RX:=R4
  have TX:Hid (Touch (fun i=>i=p) w4 w4):=Lib.hid (Touch.refl _ _)
  have H256:=hN256
  have HA:Hid (∀ W,Touch (fun i=>i=p) w4 W→RAtV W (w.heap.size+1) (.slice (some ⟨g,0,none⟩) N sc) l):=Lib.hid fun W hT=>HA4.out.touch hT (fun i hi=>by omega)
  have HL256:Hid (l.length≤256):=Lib.hid (by rw [←HN.out];exact hN256)
  obtain ⟨c0,c1,c2,c3,c4,c5⟩:=HK.out _ TX.out
  have KS:=Lib.hid fun W=>rsmall_any v2 _ rfl bb2.2 W (HV2.out (n2,v2) (by rw [HL.out];simp))
  obtain ⟨TL,hTL⟩:∃ TL,TL=txt (v2.map low):=⟨_,rfl⟩
  rw [←hTL] at KS HMD
  clear hTL hlow
  generalize txt n1=TN1 at HK HMD c0
  generalize txt v1=TV1 at HK HMD c1
  generalize txt n2=TN2 at HK HMD c2
  generalize txt v2=TV2 at HK HMD c3 KS
  generalize txt n3=TN3 at HK HMD c4
  generalize txt v3=TV3 at HK HMD c5
  subst hN0
  clear hcs hown bb1 bb2 hN256
  clear bb3
  go_wp2_with (first
   | (go_at_call 49;(with_reducible refine (K22.out _ RX.out.rq).mono ?_);rintro e w5 ⟨rfl,ht,hs⟩;have RX:=Lib.hid (RX.out.step ht hs);have TX:=Lib.hid (TX.out.trans ht);clear ht hs;obtain ⟨c0,c1,c2,c3,c4,c5⟩:=HK.out _ TX.out;obtain ⟨d0,d1,d2,d3,d4,d5⟩:=blk6 RX.out.b1;obtain ⟨cz0,cz1,cz2,cz3,cz4,cz5⟩:=blk6 RX.out.b0;obtain ⟨cy0,cy1,cy2,cy3,cy4,cy5⟩:=blk6f RX.out.b0)
   | (go_at_call 49;(with_reducible refine (K17.out _ RX.out.rq).mono ?_);rintro e w5 ⟨rfl,ht,hs⟩;have RX:=Lib.hid (RX.out.step ht hs);have TX:=Lib.hid (TX.out.trans ht);clear ht hs;obtain ⟨c0,c1,c2,c3,c4,c5⟩:=HK.out _ TX.out;obtain ⟨d0,d1,d2,d3,d4,d5⟩:=blk6 RX.out.b1;obtain ⟨cz0,cz1,cz2,cz3,cz4,cz5⟩:=blk6 RX.out.b0;obtain ⟨cy0,cy1,cy2,cy3,cy4,cy5⟩:=blk6f RX.out.b0)
   | (go_at_call 49;(with_reducible refine (K22a.out _ RX.out.rq).mono ?_);rintro e w5 ⟨rfl,ht,hs⟩;have RX:=Lib.hid (RX.out.step ht hs);have TX:=Lib.hid (TX.out.trans ht);clear ht hs;obtain ⟨c0,c1,c2,c3,c4,c5⟩:=HK.out _ TX.out;obtain ⟨d0,d1,d2,d3,d4,d5⟩:=blk6 RX.out.b1;obtain ⟨cz0,cz1,cz2,cz3,cz4,cz5⟩:=blk6 RX.out.b0;obtain ⟨cy0,cy1,cy2,cy3,cy4,cy5⟩:=blk6f RX.out.b0)
   | (go_at_call 49;(with_reducible refine (K22b.out _ RX.out.rq).mono ?_);rintro e w5 ⟨rfl,ht,hs⟩;have RX:=Lib.hid (RX.out.step ht hs);have TX:=Lib.hid (TX.out.trans ht);clear ht hs;obtain ⟨c0,c1,c2,c3,c4,c5⟩:=HK.out _ TX.out;obtain ⟨d0,d1,d2,d3,d4,d5⟩:=blk6 RX.out.b1;obtain ⟨cz0,cz1,cz2,cz3,cz4,cz5⟩:=blk6 RX.out.b0;obtain ⟨cy0,cy1,cy2,cy3,cy4,cy5⟩:=blk6f RX.out.b0)
   | (go_at_call 48;(with_reducible refine (KS.out _).mono ?_);rintro e w5 ⟨rfl,hb⟩;have ht:=Touch.of_below (S:=fun i=>i=p) hb;have hs:=RX.out.rq.below hb;clear hb;have RX:=Lib.hid (RX.out.step ht hs);have TX:=Lib.hid (TX.out.trans ht);clear ht hs;obtain ⟨c0,c1,c2,c3,c4,c5⟩:=HK.out _ TX.out;obtain ⟨d0,d1,d2,d3,d4,d5⟩:=blk6 RX.out.b1;obtain ⟨cz0,cz1,cz2,cz3,cz4,cz5⟩:=blk6 RX.out.b0;obtain ⟨cy0,cy1,cy2,cy3,cy4,cy5⟩:=blk6f RX.out.b0))
  all_goals try (have hsc:sc=r4.length+4:=(by assumption);subst hsc)
  all_goals refine bodyPost_ret (res45 rfl (st6_any RX.out.b0 _ _ _ _ _ _)) rfl ?_
  all_goals refine RX.out.fin _ _ _ HK5.out (HA.out _ TX.out) HL256.out ?_
  all_goals (have hm:=HMD.out;clear HMD HK HA HA0 HA3 HA4 R0 R3 R4 RX TX HB0 K22 K17 K22a K22b KB KN KA HL HRES HBSX HV2 RB BB TB)
  all_goals clear cz0 cz1 cz2 cz3 cz4 cz5 cy0 cy1 cy2 cy3 cy4 cy5 d0 d1 d2 d3 d4 d5 c0 c1 c2 c3 c4 c5
  all_goals first
   | exact .inl ⟨by simp_all,rfl⟩
   | exact .inr ⟨by simp_all,by decide⟩
theorem rdecl_any (w:World) (p:Nat) (xs:List Nat) (k fr:Nat) (h:Rq w p xs k fr 0) (hx7:xs.length≤700000) :
  Calls Tryz.prog 45 #[.pointer (some ⟨p,0,none⟩)] w (RdTo p xs k fr (dcP (xs.drop k)) w):=by
 have hd:=dc_R (k:=k) h.bs
 rcases hra:raA [] (xs.drop k) with x | ⟨l,m⟩
 ·rw [hra] at hd
  rw [show dcP (xs.drop k) = .error x from hd]
  exact rdecl_err w p xs k fr x h (by rw [arR_0];exact hra)
 ·rw [hra] at hd
  have hra':arR (xs.drop k) 0 = .ok (l,m):=by rw [arR_0];exact hra
  obtain ⟨hge,h1,h2⟩:=hd (dR xs (k+m) 0) rfl
  by_cases hq:[63,62] <+: xs.drop (dR xs (k+m) 0)
  ·rw [show dcP (xs.drop k)=mdE (mdP l) l (dR xs (k+m) 0+2-k) from h1 hq]
   match l,hra' with
   | [],hra'=>exact rdecl_md0 w p xs k fr m _ h hra' rfl hge hq hx7
   | [(n1,v1)],hra'=>exact rdecl_md1 w p xs k fr m _ n1 v1 h hra' rfl hge hq hx7
   | [(n1,v1),(n2,v2)],hra'=>exact rdecl_md2 w p xs k fr m _ n1 v1 n2 v2 h hra' rfl hge hq hx7
   | [(n1,v1),(n2,v2),(n3,v3)],hra'=>exact rdecl_md3 w p xs k fr m _ n1 v1 n2 v2 n3 v3 h hra' rfl hge hq hx7
   | (n1,v1)::(n2,v2)::(n3,v3)::x4::r4,hra'=>exact rdecl_md4 w p xs k fr m _ n1 v1 n2 v2 n3 v3 x4 r4 h hra' rfl hge hq hx7
  ·rw [h2 hq]
   exact rdecl_no w p xs k fr m _ l h hra' rfl hge hq
theorem Rr.decl_no {w W W':World} {p:Nat} {xs:List Nat} {fr k x:Nat} {cs:Array Value} {i0 i5:Int} {s1 s2:ByteArray} {a:Option Addr} {n c:Nat} {b:Bool} {k':Nat} (h:Rr w W p xs fr k 0 cs) (ht:Touch (fun i=>i=p) W W') (hs:Rq W' p xs k' fr x) (hx:x≠0) :
  RkTo p xs fr (.error x) w (.returned (.agg #[.int .i64 i0,.string s1,.string s2,.slice a n c,.bool b,.int .i64 i5])) (st6 W' w.heap.size (.int .i64 i0) (.string s1) (.string s2) (.slice a n c) (.bool b) (.int .i64 i5)):=
 (h.step ht hs).no hx
set_option maxHeartbeats 6400000 in
theorem rtoken_dc (w:World) (p:Nat) (xs:List Nat) (k fr pl:Nat) (h:Rp w p xs k fr 0 pl) (hd:isDc (k == 0) (xs.drop k)) (hx7:xs.length≤700000) :
  Calls Tryz.prog 25 #[.pointer (some ⟨p,0,none⟩)] w (RkTo p xs k (plus 5 (dcP ((xs.drop k).drop 5))) w):=by
 have HK0:Hid (k=0):=Lib.hid (by have:=hd.1;simpa using this)
 have h5:5≤xs.length:=by
  have:=pre_le (by simp) hd.2.1
  simp at this
  omega
 rw [List.drop_drop]
 have HBS:=Lib.hid h.bs
 have hlen:=h.len
 have hkl:=h.le
 have RB:=Lib.hid (Rr.begin h)
 obtain ⟨S,hS⟩:∃ S,S=txt xs:=⟨_,rfl⟩
 have HSS:=Lib.hid hS
 have hSz:S.size=xs.length:=by rw [hS];exact txt_size xs
 have HGET:Hid (∀ i (h:i<S.size),((S[i]'h).toNat)=xs.getD i 0):=Lib.hid fun i h=>by subst hS;exact txt_get xs HBS.out i _
 have HEX:=Lib.hid fun i j=>txt_extract xs i j
 rw [←hS] at HEX
 have KBL:=Lib.hid fun (v:Nat) W=>rBlank_any (v:Int) W
 obtain ⟨DC,hDC⟩:∃ DC,DC=decide (isDc (k == 0) (xs.drop k)):=⟨_,rfl⟩
 have HDC:=Lib.hid hDC
 have hA:=h.below (lit_below w (.cells z44 58))
 have a1:=hA.c1
 have a2:=hA.c2
 have g2:=hA.blk.free 2
 clear hS hDC hA
 go_enter Tryz.func25,Tryz.ntmps25
 go_upto_region 10 with fail
 refine gen_w0 fun W0 hW0=>?_
 have R0:Hid (Rr w W0 p xs k k 0 #[.int .i64 0,.string ⟨#[]⟩,.string ⟨#[]⟩,.slice none 0 0,.bool false,.int .i64 (k:Nat)]):=Lib.hid (by rw [hW0];exact RB.out)
 have c0:=R0.out.rq.c0
 rw [←HSS.out] at c0
 have c1:=R0.out.rq.c1
 clear hW0 RB a1 a2 g2
 go_cut [87] from 88 to 117 (fun s87 wx=>s87 = .bool DC∧wx=W0)
 case first=>
  by_cases hk:k=0
  ·subst hk
   have HD:Hid (DC=true↔5<xs.length∧[60,63,120,109,108] <+: xs∧blaP (xs.getD 5 0)=true):=Lib.hid (by rw [HDC.out,decide_eq_true_iff];exact isDc_is HBS.out)
   by_cases h5:5<xs.length
   ·have h5I:(5:Int)<S.size:=by rw [hSz];omega
    have hsl:∀ W,(Instr.slice 9 (.string S) none (some (.int .i64 5)) none).run Tryz.prog W = .ok (.string (S.extract 0 5)) W:=fun W=>by
     have h4:(5:Int)≤S.size:=by omega
     simp [go_sem,h4]
    have hpc:S.extract 0 5=txt (xs.take 5):=by rw [HEX.out];rfl
    by_cases hp:[60,63,120,109,108] <+: xs
    ·have ht5:xs.take 5=[60,63,120,109,108]:=(List.prefix_iff_eq_take.1 hp).symm
     have h5n:5<S.size:=by rw [hSz];exact h5
     obtain ⟨x,hx⟩:∃ x:UInt8,S[5]'h5n=x:=⟨_,rfl⟩
     have hxn:xs.getD 5 0=x.toNat:=by rw [←hx];exact (HGET.out 5 h5n).symm
     have hx256:=x.toNat_lt
     rw [hpc,ht5,show txt [60,63,120,109,108]=⟨#[60,63,120,109,108]⟩ from rfl] at hsl
     rw [hxn] at HD
     have KB2:=KBL.out x.toNat
     rw [show wth blankL (x.toNat:Int)=blaP x.toNat from rfl] at KB2
     obtain ⟨bb,hbb⟩:∃ b,b=blaP x.toNat:=⟨_,rfl⟩
     rw [←hbb] at KB2 HD
     have KB2:=Lib.hid KB2
     clear hbb hpc ht5 hxn
     go_wp2_with (go_at_call 44;(with_reducible refine (KB2.out _).mono ?_);rintro e w1 ⟨rfl,rfl⟩)
     go_meet
     case rel=>exact ⟨by
      have h1:=HD.out
      cases DC <;> cases bb <;> simp [h5,hp] at h1 ⊢,rfl⟩
    ·have hne:(S.extract 0 5).toList≠[60,63,120,109,108]:=by
      rw [hpc,txt_toList]
      intro e
      have:=u8L_inj (HBS.out.take 5) (bsl [60,63,120,109,108] rfl) e
      exact hp (List.prefix_iff_eq_take.2 this.symm)
     obtain ⟨PC,hPC⟩:∃ PC,PC=S.extract 0 5:=⟨_,rfl⟩
     rw [←hPC] at hsl hne
     have hne2:(PC.toList == [60,63,120,109,108])=false:=beq_eq_false_iff_ne.2 hne
     clear hpc hPC
     go_wp2
     go_meet
     case rel=>exact ⟨by
      have h1:=HD.out
      cases DC <;> simp [hp] at h1 ⊢,rfl⟩
   ·have h5I:¬(5:Int)<S.size:=by rw [hSz];omega
    go_wp2
    go_meet
    case rel=>exact ⟨by
     have h1:=HD.out
     cases DC <;> simp [h5] at h1 ⊢,rfl⟩
  ·have hkI:((k:Int) == 0)=false:=beq_eq_false_iff_ne.2 (by omega)
   have hkI2:¬(k:Int)=0:=by omega
   go_wp2
   go_meet
   case rel=>exact ⟨by
    have:DC=false:=by rw [HDC.out];exact decide_eq_false (fun e=>hk (by simpa using e.1))
    rw [this],rfl⟩
 case rest=>
  obtain ⟨rfl,hwc⟩:=hcut
  have hwc:=hwc.symm
  subst hwc
  obtain rfl:DC=true:=by rw [HDC.out];exact decide_eq_true hd
  clear c0 c1
  clear hd
  obtain ⟨k5,hk5⟩:∃ k5,k5=k+5:=⟨_,rfl⟩
  have hk5':k5=5:=by have:=HK0.out;omega
  have HK5:=Lib.hid hk5
  obtain ⟨W5,hW5⟩:∃ W,W=W0.setCell ⟨p,1,none⟩ (.int .i64 5):=⟨_,rfl⟩
  have R5:Hid (Rr w W5 p xs k k5 0 #[.int .i64 0,.string ⟨#[]⟩,.string ⟨#[]⟩,.slice none 0 0,.bool false,.int .i64 (k:Nat)]):=Lib.hid (by
   rw [hW5,hk5']
   exact R0.out.step (touch_set p 1 W0 _) (R0.out.rq.set1 5 h5))
  have p1:=R0.out.rq.c1
  have g1:=R0.out.rq.free 1
  obtain ⟨RD,hRD⟩:∃ RD,RD=dcP (xs.drop k5):=⟨_,rfl⟩
  have KD:Hid (∀ W,Rq W p xs k5 k 0→Calls Tryz.prog 45 #[.pointer (some ⟨p,0,none⟩)] W (RdTo p xs k5 k RD W)):=Lib.hid fun W hW=>by rw [hRD];exact rdecl_any W p xs k5 k hW hx7
  have HRD:=Lib.hid hRD
  unfold RdTo at KD
  rcases hr:RD with x | ⟨t,n⟩
  ·rw [hr] at KD HRD
   simp only at KD
   clear h hr hRD hk5 hk5' h5
   go_wp2_with (rw [←hW5];clear hW5 p1 g1;go_at_call 45;(with_reducible refine (KD.out _ R5.out.rq).mono ?_);rintro e w6 ⟨ht,⟨i0,s1,s2,a,sn,sc,b,i5,rfl⟩,hx0,k6,hs⟩;have HX0:=Lib.hid hx0;have R6:=Lib.hid (R5.out.step ht hs);clear ht hs hx0;obtain ⟨cz0,cz1,cz2,cz3,cz4,cz5⟩:=R6.out.ce0;obtain ⟨cy0,cy1,cy2,cy3,cy4,cy5⟩:=R6.out.fr0)
   refine bodyPost_ret (res25 rfl (st6_any R6.out.b0 _ _ _ _ _ _)) rfl ?_
   rw [←HK5.out,←HRD.out]
   exact R6.out.no HX0.out
  ·rw [hr] at KD HRD
   simp only at KD
   clear h hr hRD hk5 hk5' h5
   go_wp2_with (rw [←hW5];clear hW5 p1 g1;go_at_call 45;(with_reducible refine (KD.out _ R5.out.rq).mono ?_);rintro e w6 ⟨ht,sv,rfl,⟨sa,sc,rfl,hown⟩,hs,hl⟩;have R6:=Lib.hid (R5.out.step ht hs);have HA:=Lib.hid (show RAtV w6 (w.heap.size+1) (.slice sa t.a.length sc) t.a from ⟨sa,sc,rfl,World.ownsRow.mono hown (by have:=R5.out.b1.lt;omega)⟩);clear ht hs hown;obtain ⟨cz0,cz1,cz2,cz3,cz4,cz5⟩:=R6.out.ce0;obtain ⟨cy0,cy1,cy2,cy3,cy4,cy5⟩:=R6.out.fr0)
   refine bodyPost_ret (res25 rfl (st6_any R6.out.b0 _ _ _ _ _ _)) rfl ?_
   rw [←HK5.out,←HRD.out]
   exact R6.out.yes t (5+n) _ (by have:=HK5.out;omega) HA.out hl
theorem rtoken_any (w:World) (p:Nat) (xs:List Nat) (k fr pl:Nat) (h:Rp w p xs k fr 0 pl) (hx7:xs.length≤700000) :
  Calls Tryz.prog 25 #[.pointer (some ⟨p,0,none⟩)] w (RkTo p xs k (tkP (k == 0) (xs.drop k)) w):=by
 unfold tkP
 by_cases hd:isDc (k == 0) (xs.drop k)
 ·rw [if_pos hd];exact rtoken_dc w p xs k fr pl h hd hx7
 rw [if_neg hd]
 by_cases h0:[60,63] <+: xs.drop k
 ·rw [if_pos h0];exact rtoken_0 w p xs k fr pl h hd h0
 rw [if_neg h0]
 by_cases h1:[60,33,45,45] <+: xs.drop k
 ·rw [if_pos h1];exact rtoken_1 w p xs k fr pl h hd h0 h1
 rw [if_neg h1]
 by_cases h2:[60,33,91,67,68,65,84,65,91] <+: xs.drop k
 ·rw [if_pos h2];exact rtoken_2 w p xs k fr pl h hd h0 h1 h2
 rw [if_neg h2]
 by_cases h3:[60,33] <+: xs.drop k
 ·rw [if_pos h3];exact rtoken_3 w p xs k fr pl h hd h0 h1 h2 h3
 rw [if_neg h3]
 by_cases h4:[60,47] <+: xs.drop k
 ·rw [if_pos h4];exact rtoken_4 w p xs k fr pl h hd h0 h1 h2 h3 h4
 rw [if_neg h4]
 by_cases h5:[60] <+: xs.drop k
 ·rw [if_pos h5];exact rtoken_5 w p xs k fr pl h hd h0 h1 h2 h3 h4 h5
 rw [if_neg h5]
 exact rtoken_6 w p xs k fr pl h hd h0 h1 h2 h3 h4 h5
theorem at29:AT 29 58 (.agg #[.int .i64 0,.string ⟨#[]⟩,.string ⟨#[]⟩,.slice none 0 0,.bool false,.int .i64 0]) 6 80:=⟨by kernel_rfl,by kernel_rfl,rfl,by omega⟩
structure RTks (W:World) (B:Nat) (tv:Value) (m:List Tkm):Prop where
 own:W.ownsRow B 58 6 tv m.length (tkcs m)
 av:∀ x∈m,RAtV W B x.2 x.1.1.a∧x.1.1.a.length≤256
theorem RTks.touch {S:Nat→Prop} {W W':World} {B:Nat} {tv:Value} {m:List Tkm} (h:RTks W B tv m) (ht:Touch S W W') (hS:∀ i,S i→i<B):RTks W' B tv m:=
 ⟨ownsRow_touch h.own ht fun i hi he=>by have:=h.own.lt i hi;have:=hS i he;omega,fun x hx=>⟨(h.av x hx).1.touch ht hS,(h.av x hx).2⟩⟩
theorem RTks.below {W W':World} {B:Nat} {tv:Value} {m:List Tkm} (h:RTks W B tv m) (hb:Below W.heap.size W W'):RTks W' B tv m:=h.touch (Touch.of_below (S:=fun _=>False) hb) (fun _ h=>h.elim)
theorem RTks.mono {W:World} {B B':Nat} {tv:Value} {m:List Tkm} (h:RTks W B tv m) (hB:B'≤B):RTks W B' tv m:=
 ⟨World.ownsRow.mono h.own hB,fun x hx=>⟨(h.av x hx).1.mono hB,(h.av x hx).2⟩⟩
theorem RAtV.own_ne {W:World} {B B':Nat} {tv sv:Value} {l:List At} {n:Nat} {ys:List Value} (h:RAtV W B sv l) (ho:W.ownsRow B' 58 6 tv n ys):∀ i,tv.ownBlock=some i→sv.ownBlock≠some i:=fun i hi he=>by
 obtain ⟨a,cc,h1,h2⟩:=h
 subst h1
 obtain ⟨cur,hc⟩:=own_cells ho hi
 obtain ⟨cur',hc'⟩:=own_cells h2 he
 rw [hc] at hc'
 injection hc' with hc'
 injection hc' with _ h3 _
 cases h3
theorem RAtV.touch2 {S:Nat→Prop} {w w':World} {B:Nat} {sv:Value} {l:List At} (h:RAtV w B sv l) (ht:Touch S w w') (hS:∀ i,S i→sv.ownBlock≠some i):RAtV w' B sv l:=by
 obtain ⟨a,cc,h1,h2⟩:=h
 subst h1
 exact ⟨a,cc,rfl,ownsRow_touch h2 ht fun i hi he=>hS i he hi⟩
theorem RTks.apd {W W':World} {B:Nat} {tv tv':Value} {m:List Tkm} (h:RTks W B tv m) (x:Tkm) (hx:RAtV W B x.2 x.1.1.a) (hl:x.1.1.a.length≤256) (hA:Apd W B 58 6 tv (m.length+1) (tkcs m++tkv x) tv' W'):RTks W' B tv' (m++[x]):=by
 have e:tkcs (m++[x])=tkcs m++tkv x:=by simp [tkcs]
 refine ⟨by rw [e,List.length_append];exact hA.own,fun y hy=>?_⟩
 rcases List.mem_append.1 hy with hy | hy
 ·exact ⟨(h.av y hy).1.touch2 hA.touch fun i hi=>(h.av y hy).1.own_ne h.own i hi,(h.av y hy).2⟩
 ·rw [List.mem_singleton.1 hy]
  exact ⟨hx.touch2 hA.touch fun i hi=>hx.own_ne h.own i hi,hl⟩
theorem RTks.shape {W:World} {B:Nat} {tv:Value} {m:List Tkm} (h:RTks W B tv m):∃ a n c,tv = .slice a n c:=by
 rcases h.own.2 with ⟨e,_⟩ | ⟨g,cap,cur,e,_⟩
 ·exact ⟨_,_,_,e⟩
 ·exact ⟨_,_,_,e⟩
theorem RTks.at {W:World} {B:Nat} {a:Option Addr} {n c:Nat} {m:List Tkm} (h:RTks W B (.slice a n c) m):n=m.length∧(m≠[]→∃ g,a=some ⟨g,0,none⟩∧B≤g∧∀ i x,m[i]? = some x→Tk6 W g i x):=by
 rcases h.own.2 with ⟨e,h0⟩ | ⟨g,cap,cur,e,hg,_⟩
 ·injection e with _ e2 _
  refine ⟨by omega,fun hm=>?_⟩
  have:=List.length_pos_iff.2 hm
  omega
 ·injection e with e1 e2 e3
  refine ⟨e2,fun _=>⟨g,e1,hg,fun i x hx=>?_⟩⟩
  have hc:=h.own.cells (g:=g) (by rw [e1];rfl)
  have key:∀ j u,j<6→(tkv x)[j]? = some u→W.cell? ⟨g,i*6+j,none⟩=some u:=fun j u hj hu=>by
   have:=hc (i*6+j) u (by rw [tkcs_at m i j x hx hj];exact hu)
   rwa [Addr.add_lit,Nat.zero_add] at this
  exact ⟨key 0 _ (by decide) rfl,key 1 _ (by decide) rfl,key 2 _ (by decide) rfl,key 3 _ (by decide) rfl,key 4 _ (by decide) rfl,key 5 _ (by decide) rfl⟩
def RScTo (r:Except (Nat × Nat) (List (Tk × Nat))) (w:World) (e:Ending) (w':World):Prop:=
 Below w.heap.size w w'∧match r with
  | .error (a,er)=>e = .returned (.tuple #[.slice none 0 0,.int .i64 (a:Nat),.int .i64 (er:Nat)])
  | .ok l=>∃ a n c m,e = .returned (.tuple #[.slice a n c,.int .i64 0,.int .i64 0])∧m.map Prod.fst=l∧RTks w' w.heap.size (.slice a n c) m
structure RSc (RES:Except (Nat × Nat) (List (Tk × Nat))) (w wr:World) (p:Nat) (xs:List Nat) (k:Nat) (tv:Value) (m:List Tkm):Prop where
 bel:Below w.heap.size w wr
 rp:∃ fr pl,Rp wr p xs k fr 0 pl
 tks:RTks wr (p+1) tv m
 ge:w.heap.size≤p
 len:m.length≤k
 st:RES=match tsA k (xs.drop k) with
  | .error e => .error e
  | .ok l => .ok (m.map Prod.fst++l)
theorem RSc.next {RES:Except (Nat × Nat) (List (Tk × Nat))} {w wr w1 w2 w4 w5:World} {p:Nat} {xs:List Nat} {k n:Nat} {tv tv' sv:Value} {m:List Tkm} {t:Tk} (h:RSc RES w wr p xs k tv m) (hd:Below wr.heap.size wr w1)
  (ht:Touch (fun i=>i=p) w1 w2) (hq:Rq w2 p xs (k+n) k 0) (hav:RAtV w2 w1.heap.size sv t.a) (hla:t.a.length≤256)
  (hst:RES=match (match tsA (k+n) ((xs.drop k).drop n) with
   | .error e => .error e
   | .ok l => .ok ((t,k)::l):Except (Nat × Nat) (List (Tk × Nat))) with
  | .error e => .error e
  | .ok l => .ok (m.map Prod.fst++l)) (hn:0<n) (hb:Below w2.heap.size w2 w4) (hA:Apd w4 (p+1) 58 6 tv (m.length+1) (tkcs m++tkv ((t,k),sv)) tv' w5) :
  RSc RES w w5 p xs (k+n) tv' (m++[((t,k),sv)]):=by
 obtain ⟨fr,pl,hrp⟩:=h.rp
 have hp1:p+1≤w1.heap.size:=by have:=hrp.blk.lt;have:=hd.size;omega
 have t2:=(h.tks.below hd).touch ht (fun i hi=>by omega)
 have t4:=t2.below hb
 have hav4:RAtV w4 (p+1) sv t.a:=(hav.touch (Touch.of_below (S:=fun _=>False) hb) (fun _ h=>h.elim)).mono hp1
 have q4:=hq.below hb
 have q5:Rq w5 p xs (k+n) k 0:=q4.touch hA.touch (fun e=>by have:=(t4.own.lt p e);omega)
 obtain ⟨pl',hp',_⟩:=q5
 have hz4:p+1≤w4.heap.size:=by have:=ht.size;have:=hb.size;omega
 refine ⟨?_,⟨_,_,hp'⟩,t4.apd ((t,k),sv) hav4 hla hA,h.ge,by rw [List.length_append,List.length_singleton];have:=h.len;omega,?_⟩
 ·have b1:Below w.heap.size w w1:=h.bel.trans (hd.mono h.bel.size)
  have b2:Below w.heap.size w w2:=b1.trans (ht.below (by have:=h.ge;omega) (fun i hi=>by have:=h.ge;omega))
  have b4:Below w.heap.size w w4:=b2.trans (hb.mono b2.size)
  exact b4.trans (hA.touch.below b4.size (fun i hi=>by have:=(t4.own.lt i hi).1;have:=h.ge;omega))
 ·rw [hst,List.drop_drop]
  rcases tsA (k+n) (xs.drop (k+n)) with e | l
  ·rfl
  ·simp
set_option maxHeartbeats 25600000 in
theorem rescape_any (xs:List Nat) (S:ByteArray) (hS:S=txt xs) (hb:Bs xs) (q:Bool) (w:World) (hl:xs.length≤1000000) :
  Calls Tryz.prog 19 #[.string S,.bool q] w fun e w'=>e = .returned (esA q xs)∧Below w.heap.size w w':=by
 have hz:S.size=xs.length:=by rw [hS];exact txt_size xs
 have hbt:bts S=xs:=by rw [hS];exact bts_txt hb
 obtain ⟨NEW,CAP,hcvt,hnb,hnl⟩:=text_run S (by omega)
 rw [hbt] at hnl
 obtain ⟨M,hM⟩:∃ M,M=xs.length:=⟨_,rfl⟩
 have HM:=Lib.hid hM
 rw [hz,←hM] at hcvt
 have KC:Hid (Calls Tryz.prog 16 #[.slice (some ⟨w.heap.size,0,none⟩) M (CAP w)] (NEW w) fun e w'=>e = .returned (.tuple #[.int .i64 ((alA charP xs).1:Nat),.bool (alA charP xs).2])∧Below (NEW w).heap.size (NEW w) w'):=
  Lib.hid (by rw [hM];exact rCheck_any (some ⟨w.heap.size,0,none⟩) (CAP w) xs (NEW w) (hnl w) (by omega))
 have HB1:=Lib.hid (hnb w)
 have HEX:=Lib.hid fun i j=>txt_extract xs i j
 rw [←hS] at HEX
 have HGET:Hid (∀ i (h:i<S.size),((S[i]'h).toNat)=xs.getD i 0):=Lib.hid fun i h=>by subst hS;exact txt_get xs hb i _
 rw [←hM] at hz hl
 unfold esA
 rcases hal:al charP xs 0 with _ | k
 ·have ha:alA charP xs=(0,true):=by unfold alA;rw [hal];rfl
  rw [ha] at KC
  rw [if_pos rfl]
  clear hal ha hbt hnb hnl hb hS hM
  cases q
  ·go_enter Tryz.func19,Tryz.ntmps19
   go_wp2_with (go_at_call 16;(with_reducible refine KC.out.mono ?_);rintro e w2 ⟨rfl,hb2⟩;have HB2:=Lib.hid (HB1.out.trans (hb2.mono HB1.out.size));clear hb2)
   go_loopg [8,9,10] M (fun gh s8 s9 _ wr=>wr=w2∧∃ (i:Nat) (T:ByteArray),s9 = .int .i64 (i:Nat)∧s8 = .string T∧M-i≤gh∧i≤M∧Hid (T=txt (esc false (xs.take i))))
   case atStart=>exact ⟨rfl,0,_,rfl,rfl,by omega,by omega,Lib.hid rfl⟩
   case round=>
    obtain ⟨rfl,i,T,rfl,rfl,hgh,hi,hT⟩:=hrel
    have hTs:T.size≤6000000:=by
     rw [hT.out,txt_size]
     have h1:=esc_len false (xs.take i)
     rw [List.length_take] at h1
     omega
    by_cases hlt:i<M
    ·have hiS:i<S.size:=by omega
     have hiI:(i:Int)<S.size:=by omega
     have hix:i<xs.length:=by rw [←HM.out];exact hlt
     obtain ⟨x,hx⟩:∃ x:UInt8,S[i]'hiS=x:=⟨_,rfl⟩
     have hxn:xs.getD i 0=x.toNat:=by rw [←hx];exact (HGET.out i hiS).symm
     have hes:=esc_take false hix
     rw [hxn] at hes
     by_cases c38:x.toNat=38
     ·have cI38:(x.toNat:Int)=38:=by omega
      have cb38:((x.toNat:Int) == 38)=true:=by rw [cI38];rfl
      have hE:esc1 false x.toNat=[38,97,109,112,59]:=by rw [c38];rfl
      rw [hE] at hes
      have HT2:Hid (T++⟨#[38,97,109,112,59]⟩=txt (esc false (xs.take (i+1)))):=Lib.hid (by rw [hes,hT.out,show (⟨#[38,97,109,112,59]⟩:ByteArray)=txt [38,97,109,112,59] from rfl,txt_app])
      clear hes hE hxn
      go_wp2
      all_goals try (exfalso;omega)
      go_roundg (M-(i+1))
      case measure=>omega
      case rel=>exact ⟨rfl,i+1,_,by go_num,rfl,by omega,by omega,HT2⟩
     ·have cI38:¬(x.toNat:Int)=38:=by omega
      have cb38:((x.toNat:Int) == 38)=false:=beq_eq_false_iff_ne.2 cI38
      by_cases c60:x.toNat=60
      ·have cI60:(x.toNat:Int)=60:=by omega
       have cb60:((x.toNat:Int) == 60)=true:=by rw [cI60];rfl
       have hE:esc1 false x.toNat=[38,108,116,59]:=by rw [c60];rfl
       rw [hE] at hes
       have HT2:Hid (T++⟨#[38,108,116,59]⟩=txt (esc false (xs.take (i+1)))):=Lib.hid (by rw [hes,hT.out,show (⟨#[38,108,116,59]⟩:ByteArray)=txt [38,108,116,59] from rfl,txt_app])
       clear hes hE hxn
       go_wp2
       all_goals try (exfalso;omega)
       go_roundg (M-(i+1))
       case measure=>omega
       case rel=>exact ⟨rfl,i+1,_,by go_num,rfl,by omega,by omega,HT2⟩
      ·have cI60:¬(x.toNat:Int)=60:=by omega
       have cb60:((x.toNat:Int) == 60)=false:=beq_eq_false_iff_ne.2 cI60
       by_cases c62:x.toNat=62
       ·have cI62:(x.toNat:Int)=62:=by omega
        have cb62:((x.toNat:Int) == 62)=true:=by rw [cI62];rfl
        have hE:esc1 false x.toNat=[38,103,116,59]:=by rw [c62];rfl
        rw [hE] at hes
        have HT2:Hid (T++⟨#[38,103,116,59]⟩=txt (esc false (xs.take (i+1)))):=Lib.hid (by rw [hes,hT.out,show (⟨#[38,103,116,59]⟩:ByteArray)=txt [38,103,116,59] from rfl,txt_app])
        clear hes hE hxn
        go_wp2
        all_goals try (exfalso;omega)
        go_roundg (M-(i+1))
        case measure=>omega
        case rel=>exact ⟨rfl,i+1,_,by go_num,rfl,by omega,by omega,HT2⟩
       ·have cI62:¬(x.toNat:Int)=62:=by omega
        have cb62:((x.toNat:Int) == 62)=false:=beq_eq_false_iff_ne.2 cI62
        by_cases c13:x.toNat=13
        ·have cI13:(x.toNat:Int)=13:=by omega
         have cb13:((x.toNat:Int) == 13)=true:=by rw [cI13];rfl
         have hE:esc1 false x.toNat=[38,35,49,51,59]:=by rw [c13];rfl
         rw [hE] at hes
         have HT2:Hid (T++⟨#[38,35,49,51,59]⟩=txt (esc false (xs.take (i+1)))):=Lib.hid (by rw [hes,hT.out,show (⟨#[38,35,49,51,59]⟩:ByteArray)=txt [38,35,49,51,59] from rfl,txt_app])
         clear hes hE hxn
         go_wp2
         all_goals try (exfalso;omega)
         go_roundg (M-(i+1))
         case measure=>omega
         case rel=>exact ⟨rfl,i+1,_,by go_num,rfl,by omega,by omega,HT2⟩
        ·have cI13:¬(x.toNat:Int)=13:=by omega
         have cb13:((x.toNat:Int) == 13)=false:=beq_eq_false_iff_ne.2 cI13
         have hE:esc1 false x.toNat=[x.toNat]:=by
          unfold esc1
          simp only [c38,c60,c62,c13,Bool.false_eq_true,false_and,if_false]
         rw [hE] at hes
         obtain ⟨p,hp⟩:∃ p,p=i+1:=⟨_,rfl⟩
         have hsum:(i:Int)+1=p:=by omega
         have hsl:∀ W,(Instr.slice 9 (.string S) (some (.int .i64 (i:Nat))) (some (.int .i64 (p:Nat))) none).run Tryz.prog W = .ok (.string (S.extract i p)) W:=fun W=>by
          have h1:(0:Int)≤i∧(i:Int)≤p:=by omega
          have h2:(p:Int)≤S.size:=by omega
          simp [go_sem,h1,h2]
         obtain ⟨PC,hPC⟩:∃ PC,PC=S.extract i p:=⟨_,rfl⟩
         rw [←hPC] at hsl
         have hPt:PC=txt [x.toNat]:=by
          rw [hPC,HEX.out,hp,show i+1-i=1 by omega,drop_cons hix,hxn];rfl
         have hPs:PC.size≤10:=by rw [hPt,txt_size];simp
         have HT2:Hid (T++PC=txt (esc false (xs.take (i+1)))):=Lib.hid (by rw [hes,hT.out,hPt,txt_app])
         have HPP:=Lib.hid hp
         clear hes hE hPC hPt hxn hp
         go_wp2
         all_goals try (exfalso;omega)
         have hp:=HPP.out
         go_roundg (M-(i+1))
         case measure=>omega
         case rel=>exact ⟨rfl,i+1,_,by go_num,rfl,by omega,by omega,HT2⟩
    ·obtain rfl:i=M:=by omega
     have hiI:¬(i:Int)<S.size:=by omega
     have HF:Hid (T=txt (esc false xs)):=Lib.hid (by rw [hT.out,List.take_of_length_le (by rw [←HM.out];exact Nat.le_refl _)])
     go_wp2
     go_ret2
     exact ⟨by rw [←HF.out];rfl,HB2.out⟩
  ·go_enter Tryz.func19,Tryz.ntmps19
   go_wp2_with (go_at_call 16;(with_reducible refine KC.out.mono ?_);rintro e w2 ⟨rfl,hb2⟩;have HB2:=Lib.hid (HB1.out.trans (hb2.mono HB1.out.size));clear hb2)
   go_loopg [8,9,10] M (fun gh s8 s9 _ wr=>wr=w2∧∃ (i:Nat) (T:ByteArray),s9 = .int .i64 (i:Nat)∧s8 = .string T∧M-i≤gh∧i≤M∧Hid (T=txt (esc true (xs.take i))))
   case atStart=>exact ⟨rfl,0,_,rfl,rfl,by omega,by omega,Lib.hid rfl⟩
   case round=>
    obtain ⟨rfl,i,T,rfl,rfl,hgh,hi,hT⟩:=hrel
    have hTs:T.size≤6000000:=by
     rw [hT.out,txt_size]
     have h1:=esc_len true (xs.take i)
     rw [List.length_take] at h1
     omega
    by_cases hlt:i<M
    ·have hiS:i<S.size:=by omega
     have hiI:(i:Int)<S.size:=by omega
     have hix:i<xs.length:=by rw [←HM.out];exact hlt
     obtain ⟨x,hx⟩:∃ x:UInt8,S[i]'hiS=x:=⟨_,rfl⟩
     have hxn:xs.getD i 0=x.toNat:=by rw [←hx];exact (HGET.out i hiS).symm
     have hes:=esc_take true hix
     rw [hxn] at hes
     by_cases c38:x.toNat=38
     ·have cI38:(x.toNat:Int)=38:=by omega
      have cb38:((x.toNat:Int) == 38)=true:=by rw [cI38];rfl
      have hE:esc1 true x.toNat=[38,97,109,112,59]:=by rw [c38];rfl
      rw [hE] at hes
      have HT2:Hid (T++⟨#[38,97,109,112,59]⟩=txt (esc true (xs.take (i+1)))):=Lib.hid (by rw [hes,hT.out,show (⟨#[38,97,109,112,59]⟩:ByteArray)=txt [38,97,109,112,59] from rfl,txt_app])
      clear hes hE hxn
      go_wp2
      all_goals try (exfalso;omega)
      go_roundg (M-(i+1))
      case measure=>omega
      case rel=>exact ⟨rfl,i+1,_,by go_num,rfl,by omega,by omega,HT2⟩
     ·have cI38:¬(x.toNat:Int)=38:=by omega
      have cb38:((x.toNat:Int) == 38)=false:=beq_eq_false_iff_ne.2 cI38
      by_cases c60:x.toNat=60
      ·have cI60:(x.toNat:Int)=60:=by omega
       have cb60:((x.toNat:Int) == 60)=true:=by rw [cI60];rfl
       have hE:esc1 true x.toNat=[38,108,116,59]:=by rw [c60];rfl
       rw [hE] at hes
       have HT2:Hid (T++⟨#[38,108,116,59]⟩=txt (esc true (xs.take (i+1)))):=Lib.hid (by rw [hes,hT.out,show (⟨#[38,108,116,59]⟩:ByteArray)=txt [38,108,116,59] from rfl,txt_app])
       clear hes hE hxn
       go_wp2
       all_goals try (exfalso;omega)
       go_roundg (M-(i+1))
       case measure=>omega
       case rel=>exact ⟨rfl,i+1,_,by go_num,rfl,by omega,by omega,HT2⟩
      ·have cI60:¬(x.toNat:Int)=60:=by omega
       have cb60:((x.toNat:Int) == 60)=false:=beq_eq_false_iff_ne.2 cI60
       by_cases c62:x.toNat=62
       ·have cI62:(x.toNat:Int)=62:=by omega
        have cb62:((x.toNat:Int) == 62)=true:=by rw [cI62];rfl
        have hE:esc1 true x.toNat=[38,103,116,59]:=by rw [c62];rfl
        rw [hE] at hes
        have HT2:Hid (T++⟨#[38,103,116,59]⟩=txt (esc true (xs.take (i+1)))):=Lib.hid (by rw [hes,hT.out,show (⟨#[38,103,116,59]⟩:ByteArray)=txt [38,103,116,59] from rfl,txt_app])
        clear hes hE hxn
        go_wp2
        all_goals try (exfalso;omega)
        go_roundg (M-(i+1))
        case measure=>omega
        case rel=>exact ⟨rfl,i+1,_,by go_num,rfl,by omega,by omega,HT2⟩
       ·have cI62:¬(x.toNat:Int)=62:=by omega
        have cb62:((x.toNat:Int) == 62)=false:=beq_eq_false_iff_ne.2 cI62
        by_cases c13:x.toNat=13
        ·have cI13:(x.toNat:Int)=13:=by omega
         have cb13:((x.toNat:Int) == 13)=true:=by rw [cI13];rfl
         have hE:esc1 true x.toNat=[38,35,49,51,59]:=by rw [c13];rfl
         rw [hE] at hes
         have HT2:Hid (T++⟨#[38,35,49,51,59]⟩=txt (esc true (xs.take (i+1)))):=Lib.hid (by rw [hes,hT.out,show (⟨#[38,35,49,51,59]⟩:ByteArray)=txt [38,35,49,51,59] from rfl,txt_app])
         clear hes hE hxn
         go_wp2
         all_goals try (exfalso;omega)
         go_roundg (M-(i+1))
         case measure=>omega
         case rel=>exact ⟨rfl,i+1,_,by go_num,rfl,by omega,by omega,HT2⟩
        ·have cI13:¬(x.toNat:Int)=13:=by omega
         have cb13:((x.toNat:Int) == 13)=false:=beq_eq_false_iff_ne.2 cI13
         by_cases c34:x.toNat=34
         ·have cI34:(x.toNat:Int)=34:=by omega
          have cb34:((x.toNat:Int) == 34)=true:=by rw [cI34];rfl
          have hE:esc1 true x.toNat=[38,113,117,111,116,59]:=by rw [c34];rfl
          rw [hE] at hes
          have HT2:Hid (T++⟨#[38,113,117,111,116,59]⟩=txt (esc true (xs.take (i+1)))):=Lib.hid (by rw [hes,hT.out,show (⟨#[38,113,117,111,116,59]⟩:ByteArray)=txt [38,113,117,111,116,59] from rfl,txt_app])
          clear hes hE hxn
          go_wp2
          all_goals try (exfalso;omega)
          go_roundg (M-(i+1))
          case measure=>omega
          case rel=>exact ⟨rfl,i+1,_,by go_num,rfl,by omega,by omega,HT2⟩
         ·have cI34:¬(x.toNat:Int)=34:=by omega
          have cb34:((x.toNat:Int) == 34)=false:=beq_eq_false_iff_ne.2 cI34
          by_cases c9:x.toNat=9
          ·have cI9:(x.toNat:Int)=9:=by omega
           have cb9:((x.toNat:Int) == 9)=true:=by rw [cI9];rfl
           have hE:esc1 true x.toNat=[38,35,57,59]:=by rw [c9];rfl
           rw [hE] at hes
           have HT2:Hid (T++⟨#[38,35,57,59]⟩=txt (esc true (xs.take (i+1)))):=Lib.hid (by rw [hes,hT.out,show (⟨#[38,35,57,59]⟩:ByteArray)=txt [38,35,57,59] from rfl,txt_app])
           clear hes hE hxn
           go_wp2
           all_goals try (exfalso;omega)
           go_roundg (M-(i+1))
           case measure=>omega
           case rel=>exact ⟨rfl,i+1,_,by go_num,rfl,by omega,by omega,HT2⟩
          ·have cI9:¬(x.toNat:Int)=9:=by omega
           have cb9:((x.toNat:Int) == 9)=false:=beq_eq_false_iff_ne.2 cI9
           by_cases c10:x.toNat=10
           ·have cI10:(x.toNat:Int)=10:=by omega
            have cb10:((x.toNat:Int) == 10)=true:=by rw [cI10];rfl
            have hE:esc1 true x.toNat=[38,35,49,48,59]:=by rw [c10];rfl
            rw [hE] at hes
            have HT2:Hid (T++⟨#[38,35,49,48,59]⟩=txt (esc true (xs.take (i+1)))):=Lib.hid (by rw [hes,hT.out,show (⟨#[38,35,49,48,59]⟩:ByteArray)=txt [38,35,49,48,59] from rfl,txt_app])
            clear hes hE hxn
            go_wp2
            all_goals try (exfalso;omega)
            go_roundg (M-(i+1))
            case measure=>omega
            case rel=>exact ⟨rfl,i+1,_,by go_num,rfl,by omega,by omega,HT2⟩
           ·have cI10:¬(x.toNat:Int)=10:=by omega
            have cb10:((x.toNat:Int) == 10)=false:=beq_eq_false_iff_ne.2 cI10
            have hE:esc1 true x.toNat=[x.toNat]:=by
             unfold esc1
             simp only [c38,c60,c62,c13,c34,c9,c10,true_and,if_false]
            rw [hE] at hes
            obtain ⟨p,hp⟩:∃ p,p=i+1:=⟨_,rfl⟩
            have hsum:(i:Int)+1=p:=by omega
            have hsl:∀ W,(Instr.slice 9 (.string S) (some (.int .i64 (i:Nat))) (some (.int .i64 (p:Nat))) none).run Tryz.prog W = .ok (.string (S.extract i p)) W:=fun W=>by
             have h1:(0:Int)≤i∧(i:Int)≤p:=by omega
             have h2:(p:Int)≤S.size:=by omega
             simp [go_sem,h1,h2]
            obtain ⟨PC,hPC⟩:∃ PC,PC=S.extract i p:=⟨_,rfl⟩
            rw [←hPC] at hsl
            have hPt:PC=txt [x.toNat]:=by
             rw [hPC,HEX.out,hp,show i+1-i=1 by omega,drop_cons hix,hxn];rfl
            have hPs:PC.size≤10:=by rw [hPt,txt_size];simp
            have HT2:Hid (T++PC=txt (esc true (xs.take (i+1)))):=Lib.hid (by rw [hes,hT.out,hPt,txt_app])
            have HPP:=Lib.hid hp
            clear hes hE hPC hPt hxn hp
            go_wp2
            all_goals try (exfalso;omega)
            have hp:=HPP.out
            go_roundg (M-(i+1))
            case measure=>omega
            case rel=>exact ⟨rfl,i+1,_,by go_num,rfl,by omega,by omega,HT2⟩
    ·obtain rfl:i=M:=by omega
     have hiI:¬(i:Int)<S.size:=by omega
     have HF:Hid (T=txt (esc true xs)):=Lib.hid (by rw [hT.out,List.take_of_length_le (by rw [←HM.out];exact Nat.le_refl _)])
     go_wp2
     go_ret2
     exact ⟨by rw [←HF.out];rfl,HB2.out⟩
 ·have ha:alA charP xs=(k,false):=by unfold alA;rw [hal];rfl
  rw [ha] at KC
  rw [if_neg (by simp)]
  clear hal ha hbt hnb hnl hb hS hM
  go_enter Tryz.func19,Tryz.ntmps19
  go_wp2_with (go_at_call 16;(with_reducible refine KC.out.mono ?_);rintro e w2 ⟨rfl,hb2⟩;have HB2:=Lib.hid (HB1.out.trans (hb2.mono HB1.out.size));clear hb2)
  go_ret2
  exact ⟨rfl,HB2.out⟩
end
end Go.Proofs.YtbogfailbgbdoaaGreatDoor.K
