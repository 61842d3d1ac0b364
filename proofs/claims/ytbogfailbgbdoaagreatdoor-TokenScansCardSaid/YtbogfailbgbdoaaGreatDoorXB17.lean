/- Part 17. -/
import Derived.Defers
import Derived.Recover
import Derived.Test.YtbogfailbgbdoaaGreatDoorXB10
set_option linter.unusedVariables false
set_option linter.unusedSimpArgs false
namespace Go.Proofs.YtbogfailbgbdoaaGreatDoor.K
set_option maxRecDepth 100000
section
open Go.RowKit Go.Proofs.YtbogfailbgbdoaaGreatDoor U
theorem res43 {t:Array Value} {W:World} {q:Nat} {x0 x1 x2 x3 x4 x5:Value} (h2:t[2]? = some (.pointer (some ⟨q,0,none⟩))) (h:Blk W q 44 #[x0,x1,x2,x3,x4,x5]) :
  (results Tryz.f43 t).run Tryz.prog W = .ok (.agg #[x0,x1,x2,x3,x4,x5]) W:=by
 have e0:=(h.cell 0).trans (show _=some x0 from rfl)
 have e1:=(h.cell 1).trans (show _=some x1 from rfl)
 have e2:=(h.cell 2).trans (show _=some x2 from rfl)
 have e3:=(h.cell 3).trans (show _=some x3 from rfl)
 have e4:=(h.cell 4).trans (show _=some x4 from rfl)
 have e5:=(h.cell 5).trans (show _=some x5 from rfl)
 simp [results,Tryz.results43,h2,go_sem,e0,e1,e2,e3,e4,e5]
theorem Rd.fin {w W W':World} {p:Nat} {ao:Option Addr} {c:Nat} {xs:List Nat} {bg k n:Nat} {t:Tk} {e:Ending} (h:Rd w W p ao c xs bg k) (hs:TkTo p ao c xs bg k (.ok (t,n)) W e W') :
  ∃ sa sn sc,e = .returned (.agg #[.int .i64 (t.k:Nat),.string (txt t.n),.string (txt t.t),.slice sa sn sc,.bool t.e,.int .i64 0])∧Rd w W' p ao c xs bg (k+n)∧AtV W' (w.heap.size+1) (.slice sa sn sc) t.a∧t.a.length≤256:=by
 obtain ⟨ht,sv,he,ha,hsc,hl⟩:=hs
 have ha2:=ha.mono (B':=w.heap.size+1) (by have:=h.blk.lt;omega)
 obtain ⟨a,cc,h1,h2⟩:=ha
 subst h1
 exact ⟨a,_,cc,he,h.step ht hsc,ha2,hl⟩
theorem Rd.err {w W W':World} {p:Nat} {ao:Option Addr} {c:Nat} {xs:List Nat} {bg k er:Nat} {e:Ending} (h:Rd w W p ao c xs bg k) (hs:TkTo p ao c xs bg k (.error er) W e W') :
  e=kpan er∧Touch (fun i=>i=p) w W'∧∃ k',Scn W' p ao c xs bg k':=
 ⟨hs.2.1,h.tch.trans hs.1,hs.2.2⟩
section
variable (w:World) (p:Nat) (ao:Option Addr) (c:Nat) (xs:List Nat) (bg k:Nat)
set_option maxHeartbeats 3200000 in
theorem token_0 (h:Scn w p ao c xs bg k) (hd:isDc (k == 0) (xs.drop k)) :
  Calls Tryz.prog 43 #[.pointer (some ⟨p,0,none⟩)] w (TkTo p ao c xs bg k (plus 5 (dcP ((xs.drop k).drop 5))) w):=by
 have H:=Lib.hid h
 have R0:=Lib.hid (Rd.init h)
 obtain ⟨w0,hw0⟩:∃ w0,w0=w.alloc (.cells z44 44):=⟨_,rfl⟩
 rw [←hw0] at R0
 have h7:=h.tt.size
 have KD:=declares_any w0 p ao c xs bg k R0.out.scn
 rw [decide_eq_true hd] at KD
 have KD:=Lib.hid KD
 obtain ⟨RR,hRR⟩:∃ RR,RR=plus 5 (dcP ((xs.drop k).drop 5)):=⟨_,rfl⟩
 have KS:Hid (∀ W,Scn W p ao c xs bg k→Calls Tryz.prog 69 #[.pointer (some ⟨p,0,none⟩)] W (TkTo p ao c xs bg k RR W)):=Lib.hid fun W hW=>by rw [hRR];exact declaration_any W p ao c xs bg k hW hd.2.1
 rw [←hRR]
 rcases hr:RR with er | ⟨t,n⟩
 ·rw [hr] at KS
  have HRR:=Lib.hid hr
  clear h hRR hr hd
  go_enter Tryz.func43,Tryz.ntmps43
  go_wp2_with (first
   | (go_at_call 68;rw [←hw0];clear hw0;refine KD.out.mono ?_;rintro e w1 ⟨rfl,hb1⟩;have R1:=Lib.hid (R0.out.below hb1);clear hb1)
   | (go_at_call 69;(with_reducible refine (KS.out w1 R1.out.scn).mono ?_);intro e w99 h99;obtain ⟨rfl,htt,hsc⟩:=Rd.err R1.out h99;have HTT:=Lib.hid htt;have HSC:=Lib.hid hsc;clear h99 htt hsc))
  exact ⟨rfl,HTT.out,rfl,HSC.out⟩
 ·rw [hr] at KS
  have HRR:=Lib.hid hr
  clear h hRR hr hd
  go_enter Tryz.func43,Tryz.ntmps43
  go_wp2_with (first
   | (go_at_call 68;rw [←hw0];clear hw0;refine KD.out.mono ?_;rintro e w1 ⟨rfl,hb1⟩;have R1:=Lib.hid (R0.out.below hb1);clear hb1)
   | (go_at_call 69;(with_reducible refine (KS.out w1 R1.out.scn).mono ?_);intro e w99 h99;obtain ⟨sa,sn,sc,rfl,hR99,hav,hla⟩:=Rd.fin R1.out h99;have R99:=Lib.hid hR99;have HAV:=Lib.hid hav;clear h99 hR99 hav;obtain ⟨r0,r1,r2,r3,r4,r5⟩:=R99.out.ce;obtain ⟨g0,g1,g2,g3,g4,g5⟩:=R99.out.fr))
  refine bodyPost_ret (res43 rfl (st6_blk R99.out.blk _ _ _ _ _ _)) rfl ?_
  exact R99.out.done h7 H.out.apart t n (.slice sa sn sc) rfl HAV.out hla
set_option maxHeartbeats 3200000 in
theorem token_1 (h:Scn w p ao c xs bg k) (hd:¬isDc (k == 0) (xs.drop k))  (hy:[60,63] <+: xs.drop k) :
  Calls Tryz.prog 43 #[.pointer (some ⟨p,0,none⟩)] w (TkTo p ao c xs bg k (plus 2 (piP ((xs.drop k).drop 2))) w):=by
 have H:=Lib.hid h
 have R0:=Lib.hid (Rd.init h)
 obtain ⟨w0,hw0⟩:∃ w0,w0=w.alloc (.cells z44 44):=⟨_,rfl⟩
 rw [←hw0] at R0
 have h7:=h.tt.size
 have KD:=declares_any w0 p ao c xs bg k R0.out.scn
 rw [decide_eq_false hd] at KD
 have KD:=Lib.hid KD
 have KY:Hid (∀ W,Scn W p ao c xs bg k→Calls Tryz.prog 70 #[.pointer (some ⟨p,0,none⟩),.string ⟨#[60,63]⟩] W fun e w'=>e = .returned (.bool true)∧Touch (fun i=>i=p) W w'∧Scn w' p ao c xs bg (k+[60,63].length)):=Lib.hid fun W hW=>takes_yes W p ao c xs bg k ⟨#[60,63]⟩ [60,63] rfl (bsl _ rfl) (by simp) hy hW
 rw [List.drop_drop]
 obtain ⟨RS,hRR⟩:∃ RS,RS=piP (xs.drop (k+2)):=⟨_,rfl⟩
 have KS:Hid (∀ W,Scn W p ao c xs bg (k+[60,63].length)→Calls Tryz.prog 71 #[.pointer (some ⟨p,0,none⟩)] W (TkTo p ao c xs bg (k+[60,63].length) RS W)):=Lib.hid fun W hW=>by rw [hRR];exact instruction_any W p ao c xs bg _ hW
 rw [←hRR]
 rcases hr:RS with er | ⟨t,n⟩
 ·rw [hr] at KS
  clear h hRR hr hd hy
  go_enter Tryz.func43,Tryz.ntmps43
  go_wp2_with (first
   | (go_at_call 68;rw [←hw0];clear hw0;refine KD.out.mono ?_;rintro e w1 ⟨rfl,hb1⟩;have R1:=Lib.hid (R0.out.below hb1);clear hb1)
   | (go_at_call 70;(with_reducible refine (KY.out w1 R1.out.scn).mono ?_);rintro e w2 ⟨rfl,ht2,hs2⟩;have R2:=Lib.hid (R1.out.step ht2 hs2);clear ht2 hs2)
   | (go_at_call 71;(with_reducible refine (KS.out w2 R2.out.scn).mono ?_);intro e w99 h99;obtain ⟨rfl,htt,hsc⟩:=Rd.err R2.out h99;have HTT:=Lib.hid htt;have HSC:=Lib.hid hsc;clear h99 htt hsc))
  exact ⟨rfl,HTT.out,rfl,HSC.out⟩
 ·rw [hr] at KS
  clear h hRR hr hd hy
  go_enter Tryz.func43,Tryz.ntmps43
  go_wp2_with (first
   | (go_at_call 68;rw [←hw0];clear hw0;refine KD.out.mono ?_;rintro e w1 ⟨rfl,hb1⟩;have R1:=Lib.hid (R0.out.below hb1);clear hb1)
   | (go_at_call 70;(with_reducible refine (KY.out w1 R1.out.scn).mono ?_);rintro e w2 ⟨rfl,ht2,hs2⟩;have R2:=Lib.hid (R1.out.step ht2 hs2);clear ht2 hs2)
   | (go_at_call 71;(with_reducible refine (KS.out w2 R2.out.scn).mono ?_);intro e w99 h99;obtain ⟨sa,sn,sc,rfl,hR99,hav,hla⟩:=Rd.fin R2.out h99;have R99:=Lib.hid hR99;have HAV:=Lib.hid hav;clear h99 hR99 hav;obtain ⟨r0,r1,r2,r3,r4,r5⟩:=R99.out.ce;obtain ⟨g0,g1,g2,g3,g4,g5⟩:=R99.out.fr))
  refine bodyPost_ret (res43 rfl (st6_blk R99.out.blk _ _ _ _ _ _)) rfl ?_
  exact R99.out.done h7 H.out.apart t (2+n) (.slice sa sn sc) (by simp;omega) HAV.out hla
set_option maxHeartbeats 3200000 in
theorem token_2 (h:Scn w p ao c xs bg k) (hd:¬isDc (k == 0) (xs.drop k)) (h0:¬[60,63] <+: xs.drop k) (hy:[60,33,45,45] <+: xs.drop k) :
  Calls Tryz.prog 43 #[.pointer (some ⟨p,0,none⟩)] w (TkTo p ao c xs bg k (plus 4 (rmP ((xs.drop k).drop 4))) w):=by
 have H:=Lib.hid h
 have R0:=Lib.hid (Rd.init h)
 obtain ⟨w0,hw0⟩:∃ w0,w0=w.alloc (.cells z44 44):=⟨_,rfl⟩
 rw [←hw0] at R0
 have h7:=h.tt.size
 have KD:=declares_any w0 p ao c xs bg k R0.out.scn
 rw [decide_eq_false hd] at KD
 have KD:=Lib.hid KD
 have K0:Hid (∀ W,Scn W p ao c xs bg k→Calls Tryz.prog 70 #[.pointer (some ⟨p,0,none⟩),.string ⟨#[60,63]⟩] W fun e w'=>e = .returned (.bool false)∧Below W.heap.size W w'):=Lib.hid fun W hW=>takes_no W p ao c xs bg k ⟨#[60,63]⟩ [60,63] rfl (bsl _ rfl) (by simp) h0 hW
 have KY:Hid (∀ W,Scn W p ao c xs bg k→Calls Tryz.prog 70 #[.pointer (some ⟨p,0,none⟩),.string ⟨#[60,33,45,45]⟩] W fun e w'=>e = .returned (.bool true)∧Touch (fun i=>i=p) W w'∧Scn w' p ao c xs bg (k+[60,33,45,45].length)):=Lib.hid fun W hW=>takes_yes W p ao c xs bg k ⟨#[60,33,45,45]⟩ [60,33,45,45] rfl (bsl _ rfl) (by simp) hy hW
 rw [List.drop_drop]
 obtain ⟨RS,hRR⟩:∃ RS,RS=rmP (xs.drop (k+4)):=⟨_,rfl⟩
 have KS:Hid (∀ W,Scn W p ao c xs bg (k+[60,33,45,45].length)→Calls Tryz.prog 72 #[.pointer (some ⟨p,0,none⟩)] W (TkTo p ao c xs bg (k+[60,33,45,45].length) RS W)):=Lib.hid fun W hW=>by rw [hRR];exact remark_any W p ao c xs bg _ hW
 rw [←hRR]
 rcases hr:RS with er | ⟨t,n⟩
 ·rw [hr] at KS
  clear h hRR hr hd hy h0
  go_enter Tryz.func43,Tryz.ntmps43
  go_wp2_with (first
   | (go_at_call 68;rw [←hw0];clear hw0;refine KD.out.mono ?_;rintro e w1 ⟨rfl,hb1⟩;have R1:=Lib.hid (R0.out.below hb1);clear hb1)
   | (go_at_call 70;(with_reducible refine (K0.out w1 R1.out.scn).mono ?_);rintro e w2 ⟨rfl,hb2⟩;have R2:=Lib.hid (R1.out.below hb2);clear hb2)
   | (go_at_call 70;(with_reducible refine (KY.out w2 R2.out.scn).mono ?_);rintro e w3 ⟨rfl,ht3,hs3⟩;have R3:=Lib.hid (R2.out.step ht3 hs3);clear ht3 hs3)
   | (go_at_call 72;(with_reducible refine (KS.out w3 R3.out.scn).mono ?_);intro e w99 h99;obtain ⟨rfl,htt,hsc⟩:=Rd.err R3.out h99;have HTT:=Lib.hid htt;have HSC:=Lib.hid hsc;clear h99 htt hsc))
  exact ⟨rfl,HTT.out,rfl,HSC.out⟩
 ·rw [hr] at KS
  clear h hRR hr hd hy h0
  go_enter Tryz.func43,Tryz.ntmps43
  go_wp2_with (first
   | (go_at_call 68;rw [←hw0];clear hw0;refine KD.out.mono ?_;rintro e w1 ⟨rfl,hb1⟩;have R1:=Lib.hid (R0.out.below hb1);clear hb1)
   | (go_at_call 70;(with_reducible refine (K0.out w1 R1.out.scn).mono ?_);rintro e w2 ⟨rfl,hb2⟩;have R2:=Lib.hid (R1.out.below hb2);clear hb2)
   | (go_at_call 70;(with_reducible refine (KY.out w2 R2.out.scn).mono ?_);rintro e w3 ⟨rfl,ht3,hs3⟩;have R3:=Lib.hid (R2.out.step ht3 hs3);clear ht3 hs3)
   | (go_at_call 72;(with_reducible refine (KS.out w3 R3.out.scn).mono ?_);intro e w99 h99;obtain ⟨sa,sn,sc,rfl,hR99,hav,hla⟩:=Rd.fin R3.out h99;have R99:=Lib.hid hR99;have HAV:=Lib.hid hav;clear h99 hR99 hav;obtain ⟨r0,r1,r2,r3,r4,r5⟩:=R99.out.ce;obtain ⟨g0,g1,g2,g3,g4,g5⟩:=R99.out.fr))
  refine bodyPost_ret (res43 rfl (st6_blk R99.out.blk _ _ _ _ _ _)) rfl ?_
  exact R99.out.done h7 H.out.apart t (4+n) (.slice sa sn sc) (by simp;omega) HAV.out hla
set_option maxHeartbeats 3200000 in
theorem token_3 (h:Scn w p ao c xs bg k) (hd:¬isDc (k == 0) (xs.drop k)) (h0:¬[60,63] <+: xs.drop k) (h1:¬[60,33,45,45] <+: xs.drop k) (hy:[60,33,91,67,68,65,84,65,91] <+: xs.drop k) :
  Calls Tryz.prog 43 #[.pointer (some ⟨p,0,none⟩)] w (TkTo p ao c xs bg k (plus 9 (rwP ((xs.drop k).drop 9))) w):=by
 have H:=Lib.hid h
 have R0:=Lib.hid (Rd.init h)
 obtain ⟨w0,hw0⟩:∃ w0,w0=w.alloc (.cells z44 44):=⟨_,rfl⟩
 rw [←hw0] at R0
 have h7:=h.tt.size
 have KD:=declares_any w0 p ao c xs bg k R0.out.scn
 rw [decide_eq_false hd] at KD
 have KD:=Lib.hid KD
 have K0:Hid (∀ W,Scn W p ao c xs bg k→Calls Tryz.prog 70 #[.pointer (some ⟨p,0,none⟩),.string ⟨#[60,63]⟩] W fun e w'=>e = .returned (.bool false)∧Below W.heap.size W w'):=Lib.hid fun W hW=>takes_no W p ao c xs bg k ⟨#[60,63]⟩ [60,63] rfl (bsl _ rfl) (by simp) h0 hW
 have K1:Hid (∀ W,Scn W p ao c xs bg k→Calls Tryz.prog 70 #[.pointer (some ⟨p,0,none⟩),.string ⟨#[60,33,45,45]⟩] W fun e w'=>e = .returned (.bool false)∧Below W.heap.size W w'):=Lib.hid fun W hW=>takes_no W p ao c xs bg k ⟨#[60,33,45,45]⟩ [60,33,45,45] rfl (bsl _ rfl) (by simp) h1 hW
 have KY:Hid (∀ W,Scn W p ao c xs bg k→Calls Tryz.prog 70 #[.pointer (some ⟨p,0,none⟩),.string ⟨#[60,33,91,67,68,65,84,65,91]⟩] W fun e w'=>e = .returned (.bool true)∧Touch (fun i=>i=p) W w'∧Scn w' p ao c xs bg (k+[60,33,91,67,68,65,84,65,91].length)):=Lib.hid fun W hW=>takes_yes W p ao c xs bg k ⟨#[60,33,91,67,68,65,84,65,91]⟩ [60,33,91,67,68,65,84,65,91] rfl (bsl _ rfl) (by simp) hy hW
 rw [List.drop_drop]
 unfold rwP upP
 rcases hj:ix [93,93,62] (xs.drop (k+9)) with _ | i
 ·have KS:Hid (∀ W,Scn W p ao c xs bg (k+[60,33,91,67,68,65,84,65,91].length)→Calls Tryz.prog 73 #[.pointer (some ⟨p,0,none⟩),.string ⟨#[93,93,62]⟩] W fun e w'=>e=kpan 22∧Below W.heap.size W w'):=Lib.hid fun W hW=>upTo_no W p ao c xs bg _ ⟨#[93,93,62]⟩ [93,93,62] rfl (bsl _ rfl) (by simp) hj hW
  clear h hj hd hy h0 h1
  go_enter Tryz.func43,Tryz.ntmps43
  go_wp2_with (first
   | (go_at_call 68;rw [←hw0];clear hw0;refine KD.out.mono ?_;rintro e w1 ⟨rfl,hb1⟩;have R1:=Lib.hid (R0.out.below hb1);clear hb1)
   | (go_at_call 70;(with_reducible refine (K0.out w1 R1.out.scn).mono ?_);rintro e w2 ⟨rfl,hb2⟩;have R2:=Lib.hid (R1.out.below hb2);clear hb2)
   | (go_at_call 70;(with_reducible refine (K1.out w2 R2.out.scn).mono ?_);rintro e w3 ⟨rfl,hb3⟩;have R3:=Lib.hid (R2.out.below hb3);clear hb3)
   | (go_at_call 70;(with_reducible refine (KY.out w3 R3.out.scn).mono ?_);rintro e w4 ⟨rfl,ht4,hs4⟩;have R4:=Lib.hid (R3.out.step ht4 hs4);clear ht4 hs4)
   | (go_at_call 73;(with_reducible refine (KS.out w4 R4.out.scn).mono ?_);rintro e w99 ⟨rfl,hb99⟩;have R99:=Lib.hid (R4.out.below hb99);clear hb99))
  exact ⟨rfl,R99.out.tch,rfl,_,R99.out.scn⟩
 ·have KS:Hid (∀ W,Scn W p ao c xs bg (k+[60,33,91,67,68,65,84,65,91].length)→Calls Tryz.prog 73 #[.pointer (some ⟨p,0,none⟩),.string ⟨#[93,93,62]⟩] W fun e w'=>e = .returned (.string (txt ((xs.drop (k+9)).take i)))∧Touch (fun j=>j=p) W w'∧Scn w' p ao c xs bg (k+[60,33,91,67,68,65,84,65,91].length+i+[93,93,62].length)):=Lib.hid fun W hW=>upTo_yes W p ao c xs bg _ ⟨#[93,93,62]⟩ [93,93,62] i rfl (bsl _ rfl) (by simp) hj hW
  generalize hB:txt ((xs.drop (k+9)).take i)=B at KS
  have HB:=Lib.hid hB
  clear h hj hB hd hy h0 h1
  go_enter Tryz.func43,Tryz.ntmps43
  go_wp2_with (first
   | (go_at_call 68;rw [←hw0];clear hw0;refine KD.out.mono ?_;rintro e w1 ⟨rfl,hb1⟩;have R1:=Lib.hid (R0.out.below hb1);clear hb1)
   | (go_at_call 70;(with_reducible refine (K0.out w1 R1.out.scn).mono ?_);rintro e w2 ⟨rfl,hb2⟩;have R2:=Lib.hid (R1.out.below hb2);clear hb2)
   | (go_at_call 70;(with_reducible refine (K1.out w2 R2.out.scn).mono ?_);rintro e w3 ⟨rfl,hb3⟩;have R3:=Lib.hid (R2.out.below hb3);clear hb3)
   | (go_at_call 70;(with_reducible refine (KY.out w3 R3.out.scn).mono ?_);rintro e w4 ⟨rfl,ht4,hs4⟩;have R4:=Lib.hid (R3.out.step ht4 hs4);clear ht4 hs4)
   | (go_at_call 73;(with_reducible refine (KS.out w4 R4.out.scn).mono ?_);rintro e w99 ⟨rfl,ht99,hs99⟩;have R99:=Lib.hid (R4.out.step ht99 hs99);clear ht99 hs99;obtain ⟨r0,r1,r2,r3,r4,r5⟩:=R99.out.ce;obtain ⟨g0,g1,g2,g3,g4,g5⟩:=R99.out.fr))
  refine bodyPost_ret (res43 rfl (st6_blk R99.out.blk _ _ _ _ _ _)) rfl ?_
  rw [←HB.out]
  exact R99.out.done h7 H.out.apart ⟨4,[],(xs.drop (k+9)).take i,[],false⟩ (9+(i+3)) (.slice none 0 0) (by simp;omega) (AtV.nil _ _) (by simp)
set_option maxHeartbeats 3200000 in
theorem token_4 (h:Scn w p ao c xs bg k) (hd:¬isDc (k == 0) (xs.drop k)) (h0:¬[60,63] <+: xs.drop k) (h1:¬[60,33,45,45] <+: xs.drop k) (h2:¬[60,33,91,67,68,65,84,65,91] <+: xs.drop k) (hy:[60,33] <+: xs.drop k) :
  Calls Tryz.prog 43 #[.pointer (some ⟨p,0,none⟩)] w (TkTo p ao c xs bg k (.error 17) w):=by
 have H:=Lib.hid h
 have R0:=Lib.hid (Rd.init h)
 obtain ⟨w0,hw0⟩:∃ w0,w0=w.alloc (.cells z44 44):=⟨_,rfl⟩
 rw [←hw0] at R0
 have h7:=h.tt.size
 have KD:=declares_any w0 p ao c xs bg k R0.out.scn
 rw [decide_eq_false hd] at KD
 have KD:=Lib.hid KD
 have K0:Hid (∀ W,Scn W p ao c xs bg k→Calls Tryz.prog 70 #[.pointer (some ⟨p,0,none⟩),.string ⟨#[60,63]⟩] W fun e w'=>e = .returned (.bool false)∧Below W.heap.size W w'):=Lib.hid fun W hW=>takes_no W p ao c xs bg k ⟨#[60,63]⟩ [60,63] rfl (bsl _ rfl) (by simp) h0 hW
 have K1:Hid (∀ W,Scn W p ao c xs bg k→Calls Tryz.prog 70 #[.pointer (some ⟨p,0,none⟩),.string ⟨#[60,33,45,45]⟩] W fun e w'=>e = .returned (.bool false)∧Below W.heap.size W w'):=Lib.hid fun W hW=>takes_no W p ao c xs bg k ⟨#[60,33,45,45]⟩ [60,33,45,45] rfl (bsl _ rfl) (by simp) h1 hW
 have K2:Hid (∀ W,Scn W p ao c xs bg k→Calls Tryz.prog 70 #[.pointer (some ⟨p,0,none⟩),.string ⟨#[60,33,91,67,68,65,84,65,91]⟩] W fun e w'=>e = .returned (.bool false)∧Below W.heap.size W w'):=Lib.hid fun W hW=>takes_no W p ao c xs bg k ⟨#[60,33,91,67,68,65,84,65,91]⟩ [60,33,91,67,68,65,84,65,91] rfl (bsl _ rfl) (by simp) h2 hW
 have KY:Hid (∀ W,Scn W p ao c xs bg k→Calls Tryz.prog 70 #[.pointer (some ⟨p,0,none⟩),.string ⟨#[60,33]⟩] W fun e w'=>e = .returned (.bool true)∧Touch (fun i=>i=p) W w'∧Scn w' p ao c xs bg (k+[60,33].length)):=Lib.hid fun W hW=>takes_yes W p ao c xs bg k ⟨#[60,33]⟩ [60,33] rfl (bsl _ rfl) (by simp) hy hW
 clear h hd hy h0 h1 h2
 go_enter Tryz.func43,Tryz.ntmps43
 go_wp2_with (first
  | (go_at_call 68;rw [←hw0];clear hw0;refine KD.out.mono ?_;rintro e w1 ⟨rfl,hb1⟩;have R1:=Lib.hid (R0.out.below hb1);clear hb1)
  | (go_at_call 70;(with_reducible refine (K0.out w1 R1.out.scn).mono ?_);rintro e w2 ⟨rfl,hb2⟩;have R2:=Lib.hid (R1.out.below hb2);clear hb2)
  | (go_at_call 70;(with_reducible refine (K1.out w2 R2.out.scn).mono ?_);rintro e w3 ⟨rfl,hb3⟩;have R3:=Lib.hid (R2.out.below hb3);clear hb3)
  | (go_at_call 70;(with_reducible refine (K2.out w3 R3.out.scn).mono ?_);rintro e w4 ⟨rfl,hb4⟩;have R4:=Lib.hid (R3.out.below hb4);clear hb4)
  | (go_at_call 70;(with_reducible refine (KY.out w4 R4.out.scn).mono ?_);rintro e w5 ⟨rfl,ht5,hs5⟩;have R5:=Lib.hid (R4.out.step ht5 hs5);clear ht5 hs5))
 refine ⟨rfl,R5.out.tch,rfl,_,R5.out.scn⟩
set_option maxHeartbeats 3200000 in
theorem token_5 (h:Scn w p ao c xs bg k) (hd:¬isDc (k == 0) (xs.drop k)) (h0:¬[60,63] <+: xs.drop k) (h1:¬[60,33,45,45] <+: xs.drop k) (h2:¬[60,33,91,67,68,65,84,65,91] <+: xs.drop k) (h3:¬[60,33] <+: xs.drop k) (hy:[60,47] <+: xs.drop k) :
  Calls Tryz.prog 43 #[.pointer (some ⟨p,0,none⟩)] w (TkTo p ao c xs bg k (plus 2 (enP ((xs.drop k).drop 2))) w):=by
 have H:=Lib.hid h
 have R0:=Lib.hid (Rd.init h)
 obtain ⟨w0,hw0⟩:∃ w0,w0=w.alloc (.cells z44 44):=⟨_,rfl⟩
 rw [←hw0] at R0
 have h7:=h.tt.size
 have KD:=declares_any w0 p ao c xs bg k R0.out.scn
 rw [decide_eq_false hd] at KD
 have KD:=Lib.hid KD
 have K0:Hid (∀ W,Scn W p ao c xs bg k→Calls Tryz.prog 70 #[.pointer (some ⟨p,0,none⟩),.string ⟨#[60,63]⟩] W fun e w'=>e = .returned (.bool false)∧Below W.heap.size W w'):=Lib.hid fun W hW=>takes_no W p ao c xs bg k ⟨#[60,63]⟩ [60,63] rfl (bsl _ rfl) (by simp) h0 hW
 have K1:Hid (∀ W,Scn W p ao c xs bg k→Calls Tryz.prog 70 #[.pointer (some ⟨p,0,none⟩),.string ⟨#[60,33,45,45]⟩] W fun e w'=>e = .returned (.bool false)∧Below W.heap.size W w'):=Lib.hid fun W hW=>takes_no W p ao c xs bg k ⟨#[60,33,45,45]⟩ [60,33,45,45] rfl (bsl _ rfl) (by simp) h1 hW
 have K2:Hid (∀ W,Scn W p ao c xs bg k→Calls Tryz.prog 70 #[.pointer (some ⟨p,0,none⟩),.string ⟨#[60,33,91,67,68,65,84,65,91]⟩] W fun e w'=>e = .returned (.bool false)∧Below W.heap.size W w'):=Lib.hid fun W hW=>takes_no W p ao c xs bg k ⟨#[60,33,91,67,68,65,84,65,91]⟩ [60,33,91,67,68,65,84,65,91] rfl (bsl _ rfl) (by simp) h2 hW
 have K3:Hid (∀ W,Scn W p ao c xs bg k→Calls Tryz.prog 70 #[.pointer (some ⟨p,0,none⟩),.string ⟨#[60,33]⟩] W fun e w'=>e = .returned (.bool false)∧Below W.heap.size W w'):=Lib.hid fun W hW=>takes_no W p ao c xs bg k ⟨#[60,33]⟩ [60,33] rfl (bsl _ rfl) (by simp) h3 hW
 have KY:Hid (∀ W,Scn W p ao c xs bg k→Calls Tryz.prog 70 #[.pointer (some ⟨p,0,none⟩),.string ⟨#[60,47]⟩] W fun e w'=>e = .returned (.bool true)∧Touch (fun i=>i=p) W w'∧Scn w' p ao c xs bg (k+[60,47].length)):=Lib.hid fun W hW=>takes_yes W p ao c xs bg k ⟨#[60,47]⟩ [60,47] rfl (bsl _ rfl) (by simp) hy hW
 rw [List.drop_drop]
 obtain ⟨RS,hRR⟩:∃ RS,RS=enP (xs.drop (k+2)):=⟨_,rfl⟩
 have KS:Hid (∀ W,Scn W p ao c xs bg (k+[60,47].length)→Calls Tryz.prog 74 #[.pointer (some ⟨p,0,none⟩)] W (TkTo p ao c xs bg (k+[60,47].length) RS W)):=Lib.hid fun W hW=>by rw [hRR];exact end_any W p ao c xs bg _ hW
 rw [←hRR]
 rcases hr:RS with er | ⟨t,n⟩
 ·rw [hr] at KS
  clear h hRR hr hd hy h0 h1 h2 h3
  go_enter Tryz.func43,Tryz.ntmps43
  go_wp2_with (first
   | (go_at_call 68;rw [←hw0];clear hw0;refine KD.out.mono ?_;rintro e w1 ⟨rfl,hb1⟩;have R1:=Lib.hid (R0.out.below hb1);clear hb1)
   | (go_at_call 70;(with_reducible refine (K0.out w1 R1.out.scn).mono ?_);rintro e w2 ⟨rfl,hb2⟩;have R2:=Lib.hid (R1.out.below hb2);clear hb2)
   | (go_at_call 70;(with_reducible refine (K1.out w2 R2.out.scn).mono ?_);rintro e w3 ⟨rfl,hb3⟩;have R3:=Lib.hid (R2.out.below hb3);clear hb3)
   | (go_at_call 70;(with_reducible refine (K2.out w3 R3.out.scn).mono ?_);rintro e w4 ⟨rfl,hb4⟩;have R4:=Lib.hid (R3.out.below hb4);clear hb4)
   | (go_at_call 70;(with_reducible refine (K3.out w4 R4.out.scn).mono ?_);rintro e w5 ⟨rfl,hb5⟩;have R5:=Lib.hid (R4.out.below hb5);clear hb5)
   | (go_at_call 70;(with_reducible refine (KY.out w5 R5.out.scn).mono ?_);rintro e w6 ⟨rfl,ht6,hs6⟩;have R6:=Lib.hid (R5.out.step ht6 hs6);clear ht6 hs6)
   | (go_at_call 74;(with_reducible refine (KS.out w6 R6.out.scn).mono ?_);intro e w99 h99;obtain ⟨rfl,htt,hsc⟩:=Rd.err R6.out h99;have HTT:=Lib.hid htt;have HSC:=Lib.hid hsc;clear h99 htt hsc))
  exact ⟨rfl,HTT.out,rfl,HSC.out⟩
 ·rw [hr] at KS
  clear h hRR hr hd hy h0 h1 h2 h3
  go_enter Tryz.func43,Tryz.ntmps43
  go_wp2_with (first
   | (go_at_call 68;rw [←hw0];clear hw0;refine KD.out.mono ?_;rintro e w1 ⟨rfl,hb1⟩;have R1:=Lib.hid (R0.out.below hb1);clear hb1)
   | (go_at_call 70;(with_reducible refine (K0.out w1 R1.out.scn).mono ?_);rintro e w2 ⟨rfl,hb2⟩;have R2:=Lib.hid (R1.out.below hb2);clear hb2)
   | (go_at_call 70;(with_reducible refine (K1.out w2 R2.out.scn).mono ?_);rintro e w3 ⟨rfl,hb3⟩;have R3:=Lib.hid (R2.out.below hb3);clear hb3)
   | (go_at_call 70;(with_reducible refine (K2.out w3 R3.out.scn).mono ?_);rintro e w4 ⟨rfl,hb4⟩;have R4:=Lib.hid (R3.out.below hb4);clear hb4)
   | (go_at_call 70;(with_reducible refine (K3.out w4 R4.out.scn).mono ?_);rintro e w5 ⟨rfl,hb5⟩;have R5:=Lib.hid (R4.out.below hb5);clear hb5)
   | (go_at_call 70;(with_reducible refine (KY.out w5 R5.out.scn).mono ?_);rintro e w6 ⟨rfl,ht6,hs6⟩;have R6:=Lib.hid (R5.out.step ht6 hs6);clear ht6 hs6)
   | (go_at_call 74;(with_reducible refine (KS.out w6 R6.out.scn).mono ?_);intro e w99 h99;obtain ⟨sa,sn,sc,rfl,hR99,hav,hla⟩:=Rd.fin R6.out h99;have R99:=Lib.hid hR99;have HAV:=Lib.hid hav;clear h99 hR99 hav;obtain ⟨r0,r1,r2,r3,r4,r5⟩:=R99.out.ce;obtain ⟨g0,g1,g2,g3,g4,g5⟩:=R99.out.fr))
  refine bodyPost_ret (res43 rfl (st6_blk R99.out.blk _ _ _ _ _ _)) rfl ?_
  exact R99.out.done h7 H.out.apart t (2+n) (.slice sa sn sc) (by simp;omega) HAV.out hla
set_option maxHeartbeats 3200000 in
theorem token_6 (h:Scn w p ao c xs bg k) (hd:¬isDc (k == 0) (xs.drop k)) (h0:¬[60,63] <+: xs.drop k) (h1:¬[60,33,45,45] <+: xs.drop k) (h2:¬[60,33,91,67,68,65,84,65,91] <+: xs.drop k) (h3:¬[60,33] <+: xs.drop k) (h4:¬[60,47] <+: xs.drop k) (hy:[60] <+: xs.drop k) :
  Calls Tryz.prog 43 #[.pointer (some ⟨p,0,none⟩)] w (TkTo p ao c xs bg k (plus 1 (bgP ((xs.drop k).drop 1))) w):=by
 have H:=Lib.hid h
 have R0:=Lib.hid (Rd.init h)
 obtain ⟨w0,hw0⟩:∃ w0,w0=w.alloc (.cells z44 44):=⟨_,rfl⟩
 rw [←hw0] at R0
 have h7:=h.tt.size
 have KD:=declares_any w0 p ao c xs bg k R0.out.scn
 rw [decide_eq_false hd] at KD
 have KD:=Lib.hid KD
 have K0:Hid (∀ W,Scn W p ao c xs bg k→Calls Tryz.prog 70 #[.pointer (some ⟨p,0,none⟩),.string ⟨#[60,63]⟩] W fun e w'=>e = .returned (.bool false)∧Below W.heap.size W w'):=Lib.hid fun W hW=>takes_no W p ao c xs bg k ⟨#[60,63]⟩ [60,63] rfl (bsl _ rfl) (by simp) h0 hW
 have K1:Hid (∀ W,Scn W p ao c xs bg k→Calls Tryz.prog 70 #[.pointer (some ⟨p,0,none⟩),.string ⟨#[60,33,45,45]⟩] W fun e w'=>e = .returned (.bool false)∧Below W.heap.size W w'):=Lib.hid fun W hW=>takes_no W p ao c xs bg k ⟨#[60,33,45,45]⟩ [60,33,45,45] rfl (bsl _ rfl) (by simp) h1 hW
 have K2:Hid (∀ W,Scn W p ao c xs bg k→Calls Tryz.prog 70 #[.pointer (some ⟨p,0,none⟩),.string ⟨#[60,33,91,67,68,65,84,65,91]⟩] W fun e w'=>e = .returned (.bool false)∧Below W.heap.size W w'):=Lib.hid fun W hW=>takes_no W p ao c xs bg k ⟨#[60,33,91,67,68,65,84,65,91]⟩ [60,33,91,67,68,65,84,65,91] rfl (bsl _ rfl) (by simp) h2 hW
 have K3:Hid (∀ W,Scn W p ao c xs bg k→Calls Tryz.prog 70 #[.pointer (some ⟨p,0,none⟩),.string ⟨#[60,33]⟩] W fun e w'=>e = .returned (.bool false)∧Below W.heap.size W w'):=Lib.hid fun W hW=>takes_no W p ao c xs bg k ⟨#[60,33]⟩ [60,33] rfl (bsl _ rfl) (by simp) h3 hW
 have K4:Hid (∀ W,Scn W p ao c xs bg k→Calls Tryz.prog 70 #[.pointer (some ⟨p,0,none⟩),.string ⟨#[60,47]⟩] W fun e w'=>e = .returned (.bool false)∧Below W.heap.size W w'):=Lib.hid fun W hW=>takes_no W p ao c xs bg k ⟨#[60,47]⟩ [60,47] rfl (bsl _ rfl) (by simp) h4 hW
 have KY:Hid (∀ W,Scn W p ao c xs bg k→Calls Tryz.prog 70 #[.pointer (some ⟨p,0,none⟩),.string ⟨#[60]⟩] W fun e w'=>e = .returned (.bool true)∧Touch (fun i=>i=p) W w'∧Scn w' p ao c xs bg (k+[60].length)):=Lib.hid fun W hW=>takes_yes W p ao c xs bg k ⟨#[60]⟩ [60] rfl (bsl _ rfl) (by simp) hy hW
 rw [List.drop_drop]
 obtain ⟨RS,hRR⟩:∃ RS,RS=bgP (xs.drop (k+1)):=⟨_,rfl⟩
 have KS:Hid (∀ W,Scn W p ao c xs bg (k+[60].length)→Calls Tryz.prog 75 #[.pointer (some ⟨p,0,none⟩)] W (TkTo p ao c xs bg (k+[60].length) RS W)):=Lib.hid fun W hW=>by rw [hRR];exact beginning_any W p ao c xs bg _ hW
 rw [←hRR]
 rcases hr:RS with er | ⟨t,n⟩
 ·rw [hr] at KS
  clear h hRR hr hd hy h0 h1 h2 h3 h4
  go_enter Tryz.func43,Tryz.ntmps43
  go_wp2_with (first
   | (go_at_call 68;rw [←hw0];clear hw0;refine KD.out.mono ?_;rintro e w1 ⟨rfl,hb1⟩;have R1:=Lib.hid (R0.out.below hb1);clear hb1)
   | (go_at_call 70;(with_reducible refine (K0.out w1 R1.out.scn).mono ?_);rintro e w2 ⟨rfl,hb2⟩;have R2:=Lib.hid (R1.out.below hb2);clear hb2)
   | (go_at_call 70;(with_reducible refine (K1.out w2 R2.out.scn).mono ?_);rintro e w3 ⟨rfl,hb3⟩;have R3:=Lib.hid (R2.out.below hb3);clear hb3)
   | (go_at_call 70;(with_reducible refine (K2.out w3 R3.out.scn).mono ?_);rintro e w4 ⟨rfl,hb4⟩;have R4:=Lib.hid (R3.out.below hb4);clear hb4)
   | (go_at_call 70;(with_reducible refine (K3.out w4 R4.out.scn).mono ?_);rintro e w5 ⟨rfl,hb5⟩;have R5:=Lib.hid (R4.out.below hb5);clear hb5)
   | (go_at_call 70;(with_reducible refine (K4.out w5 R5.out.scn).mono ?_);rintro e w6 ⟨rfl,hb6⟩;have R6:=Lib.hid (R5.out.below hb6);clear hb6)
   | (go_at_call 70;(with_reducible refine (KY.out w6 R6.out.scn).mono ?_);rintro e w7 ⟨rfl,ht7,hs7⟩;have R7:=Lib.hid (R6.out.step ht7 hs7);clear ht7 hs7)
   | (go_at_call 75;(with_reducible refine (KS.out w7 R7.out.scn).mono ?_);intro e w99 h99;obtain ⟨rfl,htt,hsc⟩:=Rd.err R7.out h99;have HTT:=Lib.hid htt;have HSC:=Lib.hid hsc;clear h99 htt hsc))
  exact ⟨rfl,HTT.out,rfl,HSC.out⟩
 ·rw [hr] at KS
  clear h hRR hr hd hy h0 h1 h2 h3 h4
  go_enter Tryz.func43,Tryz.ntmps43
  go_wp2_with (first
   | (go_at_call 68;rw [←hw0];clear hw0;refine KD.out.mono ?_;rintro e w1 ⟨rfl,hb1⟩;have R1:=Lib.hid (R0.out.below hb1);clear hb1)
   | (go_at_call 70;(with_reducible refine (K0.out w1 R1.out.scn).mono ?_);rintro e w2 ⟨rfl,hb2⟩;have R2:=Lib.hid (R1.out.below hb2);clear hb2)
   | (go_at_call 70;(with_reducible refine (K1.out w2 R2.out.scn).mono ?_);rintro e w3 ⟨rfl,hb3⟩;have R3:=Lib.hid (R2.out.below hb3);clear hb3)
   | (go_at_call 70;(with_reducible refine (K2.out w3 R3.out.scn).mono ?_);rintro e w4 ⟨rfl,hb4⟩;have R4:=Lib.hid (R3.out.below hb4);clear hb4)
   | (go_at_call 70;(with_reducible refine (K3.out w4 R4.out.scn).mono ?_);rintro e w5 ⟨rfl,hb5⟩;have R5:=Lib.hid (R4.out.below hb5);clear hb5)
   | (go_at_call 70;(with_reducible refine (K4.out w5 R5.out.scn).mono ?_);rintro e w6 ⟨rfl,hb6⟩;have R6:=Lib.hid (R5.out.below hb6);clear hb6)
   | (go_at_call 70;(with_reducible refine (KY.out w6 R6.out.scn).mono ?_);rintro e w7 ⟨rfl,ht7,hs7⟩;have R7:=Lib.hid (R6.out.step ht7 hs7);clear ht7 hs7)
   | (go_at_call 75;(with_reducible refine (KS.out w7 R7.out.scn).mono ?_);intro e w99 h99;obtain ⟨sa,sn,sc,rfl,hR99,hav,hla⟩:=Rd.fin R7.out h99;have R99:=Lib.hid hR99;have HAV:=Lib.hid hav;clear h99 hR99 hav;obtain ⟨r0,r1,r2,r3,r4,r5⟩:=R99.out.ce;obtain ⟨g0,g1,g2,g3,g4,g5⟩:=R99.out.fr))
  refine bodyPost_ret (res43 rfl (st6_blk R99.out.blk _ _ _ _ _ _)) rfl ?_
  exact R99.out.done h7 H.out.apart t (1+n) (.slice sa sn sc) (by simp;omega) HAV.out hla
set_option maxHeartbeats 3200000 in
theorem token_7 (h:Scn w p ao c xs bg k) (hne:xs.drop k≠[]) (hd:¬isDc (k == 0) (xs.drop k)) (h0:¬[60,63] <+: xs.drop k) (h1:¬[60,33,45,45] <+: xs.drop k) (h2:¬[60,33,91,67,68,65,84,65,91] <+: xs.drop k) (h3:¬[60,33] <+: xs.drop k) (h4:¬[60,47] <+: xs.drop k) (h5:¬[60] <+: xs.drop k) :
  Calls Tryz.prog 43 #[.pointer (some ⟨p,0,none⟩)] w (TkTo p ao c xs bg k (wdP (xs.drop k)) w):=by
 have H:=Lib.hid h
 have R0:=Lib.hid (Rd.init h)
 obtain ⟨w0,hw0⟩:∃ w0,w0=w.alloc (.cells z44 44):=⟨_,rfl⟩
 rw [←hw0] at R0
 have h7:=h.tt.size
 have KD:=declares_any w0 p ao c xs bg k R0.out.scn
 rw [decide_eq_false hd] at KD
 have KD:=Lib.hid KD
 have K0:Hid (∀ W,Scn W p ao c xs bg k→Calls Tryz.prog 70 #[.pointer (some ⟨p,0,none⟩),.string ⟨#[60,63]⟩] W fun e w'=>e = .returned (.bool false)∧Below W.heap.size W w'):=Lib.hid fun W hW=>takes_no W p ao c xs bg k ⟨#[60,63]⟩ [60,63] rfl (bsl _ rfl) (by simp) h0 hW
 have K1:Hid (∀ W,Scn W p ao c xs bg k→Calls Tryz.prog 70 #[.pointer (some ⟨p,0,none⟩),.string ⟨#[60,33,45,45]⟩] W fun e w'=>e = .returned (.bool false)∧Below W.heap.size W w'):=Lib.hid fun W hW=>takes_no W p ao c xs bg k ⟨#[60,33,45,45]⟩ [60,33,45,45] rfl (bsl _ rfl) (by simp) h1 hW
 have K2:Hid (∀ W,Scn W p ao c xs bg k→Calls Tryz.prog 70 #[.pointer (some ⟨p,0,none⟩),.string ⟨#[60,33,91,67,68,65,84,65,91]⟩] W fun e w'=>e = .returned (.bool false)∧Below W.heap.size W w'):=Lib.hid fun W hW=>takes_no W p ao c xs bg k ⟨#[60,33,91,67,68,65,84,65,91]⟩ [60,33,91,67,68,65,84,65,91] rfl (bsl _ rfl) (by simp) h2 hW
 have K3:Hid (∀ W,Scn W p ao c xs bg k→Calls Tryz.prog 70 #[.pointer (some ⟨p,0,none⟩),.string ⟨#[60,33]⟩] W fun e w'=>e = .returned (.bool false)∧Below W.heap.size W w'):=Lib.hid fun W hW=>takes_no W p ao c xs bg k ⟨#[60,33]⟩ [60,33] rfl (bsl _ rfl) (by simp) h3 hW
 have K4:Hid (∀ W,Scn W p ao c xs bg k→Calls Tryz.prog 70 #[.pointer (some ⟨p,0,none⟩),.string ⟨#[60,47]⟩] W fun e w'=>e = .returned (.bool false)∧Below W.heap.size W w'):=Lib.hid fun W hW=>takes_no W p ao c xs bg k ⟨#[60,47]⟩ [60,47] rfl (bsl _ rfl) (by simp) h4 hW
 have K5:Hid (∀ W,Scn W p ao c xs bg k→Calls Tryz.prog 70 #[.pointer (some ⟨p,0,none⟩),.string ⟨#[60]⟩] W fun e w'=>e = .returned (.bool false)∧Below W.heap.size W w'):=Lib.hid fun W hW=>takes_no W p ao c xs bg k ⟨#[60]⟩ [60] rfl (bsl _ rfl) (by simp) h5 hW
 obtain ⟨RS,hRR⟩:∃ RS,RS=wdP (xs.drop k):=⟨_,rfl⟩
 have KS:Hid (∀ W,Scn W p ao c xs bg k→Calls Tryz.prog 76 #[.pointer (some ⟨p,0,none⟩)] W (TkTo p ao c xs bg k RS W)):=Lib.hid fun W hW=>by rw [hRR];exact words_any W p ao c xs bg _ hW hne h5
 rw [←hRR]
 rcases hr:RS with er | ⟨t,n⟩
 ·rw [hr] at KS
  clear h hRR hr hne hd h0 h1 h2 h3 h4 h5
  go_enter Tryz.func43,Tryz.ntmps43
  go_wp2_with (first
   | (go_at_call 68;rw [←hw0];clear hw0;refine KD.out.mono ?_;rintro e w1 ⟨rfl,hb1⟩;have R1:=Lib.hid (R0.out.below hb1);clear hb1)
   | (go_at_call 70;(with_reducible refine (K0.out w1 R1.out.scn).mono ?_);rintro e w2 ⟨rfl,hb2⟩;have R2:=Lib.hid (R1.out.below hb2);clear hb2)
   | (go_at_call 70;(with_reducible refine (K1.out w2 R2.out.scn).mono ?_);rintro e w3 ⟨rfl,hb3⟩;have R3:=Lib.hid (R2.out.below hb3);clear hb3)
   | (go_at_call 70;(with_reducible refine (K2.out w3 R3.out.scn).mono ?_);rintro e w4 ⟨rfl,hb4⟩;have R4:=Lib.hid (R3.out.below hb4);clear hb4)
   | (go_at_call 70;(with_reducible refine (K3.out w4 R4.out.scn).mono ?_);rintro e w5 ⟨rfl,hb5⟩;have R5:=Lib.hid (R4.out.below hb5);clear hb5)
   | (go_at_call 70;(with_reducible refine (K4.out w5 R5.out.scn).mono ?_);rintro e w6 ⟨rfl,hb6⟩;have R6:=Lib.hid (R5.out.below hb6);clear hb6)
   | (go_at_call 70;(with_reducible refine (K5.out w6 R6.out.scn).mono ?_);rintro e w7 ⟨rfl,hb7⟩;have R7:=Lib.hid (R6.out.below hb7);clear hb7)
   | (go_at_call 76;(with_reducible refine (KS.out w7 R7.out.scn).mono ?_);intro e w99 h99;obtain ⟨rfl,htt,hsc⟩:=Rd.err R7.out h99;have HTT:=Lib.hid htt;have HSC:=Lib.hid hsc;clear h99 htt hsc))
  exact ⟨rfl,HTT.out,rfl,HSC.out⟩
 ·rw [hr] at KS
  clear h hRR hr hne hd h0 h1 h2 h3 h4 h5
  go_enter Tryz.func43,Tryz.ntmps43
  go_wp2_with (first
   | (go_at_call 68;rw [←hw0];clear hw0;refine KD.out.mono ?_;rintro e w1 ⟨rfl,hb1⟩;have R1:=Lib.hid (R0.out.below hb1);clear hb1)
   | (go_at_call 70;(with_reducible refine (K0.out w1 R1.out.scn).mono ?_);rintro e w2 ⟨rfl,hb2⟩;have R2:=Lib.hid (R1.out.below hb2);clear hb2)
   | (go_at_call 70;(with_reducible refine (K1.out w2 R2.out.scn).mono ?_);rintro e w3 ⟨rfl,hb3⟩;have R3:=Lib.hid (R2.out.below hb3);clear hb3)
   | (go_at_call 70;(with_reducible refine (K2.out w3 R3.out.scn).mono ?_);rintro e w4 ⟨rfl,hb4⟩;have R4:=Lib.hid (R3.out.below hb4);clear hb4)
   | (go_at_call 70;(with_reducible refine (K3.out w4 R4.out.scn).mono ?_);rintro e w5 ⟨rfl,hb5⟩;have R5:=Lib.hid (R4.out.below hb5);clear hb5)
   | (go_at_call 70;(with_reducible refine (K4.out w5 R5.out.scn).mono ?_);rintro e w6 ⟨rfl,hb6⟩;have R6:=Lib.hid (R5.out.below hb6);clear hb6)
   | (go_at_call 70;(with_reducible refine (K5.out w6 R6.out.scn).mono ?_);rintro e w7 ⟨rfl,hb7⟩;have R7:=Lib.hid (R6.out.below hb7);clear hb7)
   | (go_at_call 76;(with_reducible refine (KS.out w7 R7.out.scn).mono ?_);intro e w99 h99;obtain ⟨sa,sn,sc,rfl,hR99,hav,hla⟩:=Rd.fin R7.out h99;have R99:=Lib.hid hR99;have HAV:=Lib.hid hav;clear h99 hR99 hav;obtain ⟨r0,r1,r2,r3,r4,r5⟩:=R99.out.ce;obtain ⟨g0,g1,g2,g3,g4,g5⟩:=R99.out.fr))
  refine bodyPost_ret (res43 rfl (st6_blk R99.out.blk _ _ _ _ _ _)) rfl ?_
  exact R99.out.done h7 H.out.apart t n (.slice sa sn sc) rfl HAV.out hla
theorem token_any (h:Scn w p ao c xs bg k) (hne:xs.drop k≠[]) :
  Calls Tryz.prog 43 #[.pointer (some ⟨p,0,none⟩)] w (TkTo p ao c xs bg k (tkP (k == 0) (xs.drop k)) w):=by
 unfold tkP
 by_cases hd:isDc (k == 0) (xs.drop k)
 ·rw [if_pos hd];exact token_0 w p ao c xs bg k h hd
 rw [if_neg hd]
 by_cases h0:[60,63] <+: xs.drop k
 ·rw [if_pos h0];exact token_1 w p ao c xs bg k h hd  h0
 rw [if_neg h0]
 by_cases h1:[60,33,45,45] <+: xs.drop k
 ·rw [if_pos h1];exact token_2 w p ao c xs bg k h hd h0 h1
 rw [if_neg h1]
 by_cases h2:[60,33,91,67,68,65,84,65,91] <+: xs.drop k
 ·rw [if_pos h2];exact token_3 w p ao c xs bg k h hd h0 h1 h2
 rw [if_neg h2]
 by_cases h3:[60,33] <+: xs.drop k
 ·rw [if_pos h3];exact token_4 w p ao c xs bg k h hd h0 h1 h2 h3
 rw [if_neg h3]
 by_cases h4:[60,47] <+: xs.drop k
 ·rw [if_pos h4];exact token_5 w p ao c xs bg k h hd h0 h1 h2 h3 h4
 rw [if_neg h4]
 by_cases h5:[60] <+: xs.drop k
 ·rw [if_pos h5];exact token_6 w p ao c xs bg k h hd h0 h1 h2 h3 h4 h5
 rw [if_neg h5]
 exact token_7 w p ao c xs bg k h hne hd h0 h1 h2 h3 h4 h5
end
theorem tcatch_panicking (q0 q1 q2 q3 p:Nat) (er bg:Nat) (w:World) (x1:Value) (hx1:∃ a n c,x1 = .slice a n c) (h0:w.cell? ⟨q0,0,none⟩=some (.pointer (some ⟨p,0,none⟩))) (hb:w.cell? ⟨p,1,none⟩=some (.int .i64 (bg:Nat)))
  (h1:Blk w q1 25 #[x1]) (h2:Blk w q2 3 #[.int .i64 0]) (h3:Blk w q3 26 #[.int .i64 0]) (n12:q1≠q2) (n13:q1≠q3) (n23:q2≠q3) :
  CallsD Tryz.prog 42 #[.pointer (some ⟨q0,0,none⟩),.pointer (some ⟨q1,0,none⟩),.pointer (some ⟨q2,0,none⟩),.pointer (some ⟨q3,0,none⟩)] (.panicking [{ v := .iface 80 (.int .i64 (er:Nat)),recovered:=false }]) w fun e u' w'=>
   e = .returned (.tuple #[])∧u' = .panicking [{ v := .iface 80 (.int .i64 (er:Nat)),recovered:=true }]∧w'=((w.setCell ⟨q1,0,none⟩ (.slice none 0 0)).setCell ⟨q2,0,none⟩ (.int .i64 (bg:Nat))).setCell ⟨q3,0,none⟩ (.int .i64 (er:Nat)):=by
 obtain ⟨a,n,c,rfl⟩:=hx1
 have n21:=n12.symm
 have n31:=n13.symm
 have n32:=n23.symm
 have c1:=(h1.cell 0).trans (show _=some (.slice a n c) from rfl)
 have f1:=h1.free 0
 have c2:=(h2.cell 0).trans (show _=some (.int .i64 0) from rfl)
 have f2:=h2.free 0
 have c3:=(h3.cell 0).trans (show _=some (.int .i64 0) from rfl)
 have f3:=h3.free 0
 refine callsD_of_wpS Tryz.func42 rfl fun c₀ cs hu=>?_
 apply wpS_seq
 apply wpS_region
 simp [wpOpsS,go_sem,recoverD,hu,Tryz.ntmps42,Exit.thenS]
 refine wpS_of_wp ?_
 have hta:∀ W:World,(Instr.typeAssert (.iface 80 (.int .i64 (er:Nat))) 20 80 true).run Tryz.prog W = .ok (.tuple #[.int .i64 (er:Nat),.bool true]) W:=fun _=>by
  kernel_rfl
 simp only [Array.replicate,List.replicate,List.setIfInBounds_toArray,List.append_toArray]
 go_wp2
 simp [bodyPostS,results,Tryz.results42]
theorem tcatch_idle (q0 q1 q2 q3:Nat) (w:World) :
  CallsD Tryz.prog 42 #[.pointer (some ⟨q0,0,none⟩),.pointer (some ⟨q1,0,none⟩),.pointer (some ⟨q2,0,none⟩),.pointer (some ⟨q3,0,none⟩)] .returning w fun e u' w'=>
   e = .returned (.tuple #[])∧u' = .returning∧w'=w:=by
 refine callsD_of_wpS Tryz.func42 rfl fun c₀ cs hu=>?_
 apply wpS_seq
 apply wpS_region
 simp [wpOpsS,go_sem,recoverD,hu,Tryz.ntmps42,Exit.thenS]
 refine wpS_of_wp ?_
 simp only [Array.replicate,List.replicate,List.setIfInBounds_toArray,List.append_toArray]
 go_wp2
 simp [bodyPostS,results,Tryz.results42]
 obtain ⟨f,t,td,df,md,kd,rd⟩:=c₀
 simp at hu
 simp [hu]
theorem at25:AT 25 44 (.agg #[.int .i64 0,.string ⟨#[]⟩,.string ⟨#[]⟩,.slice none 0 0,.bool false,.int .i64 0]) 6 80:=⟨by kernel_rfl,by kernel_rfl,rfl,by omega⟩
abbrev Tkm:=(Tk × Nat) × Value
def tkv (x:Tkm):List Value:=[.int .i64 (x.1.1.k:Nat),.string (txt x.1.1.n),.string (txt x.1.1.t),x.2,.bool x.1.1.e,.int .i64 (x.1.2:Nat)]
def tkcs (m:List Tkm):List Value:=m.flatMap tkv
structure Tks (W:World) (B:Nat) (tv:Value) (m:List Tkm):Prop where
 own:W.ownsRow B 44 6 tv m.length (tkcs m)
 av:∀ x∈m,AtV W B x.2 x.1.1.a∧x.1.1.a.length≤256
theorem Tks.nil (W:World) (B:Nat):Tks W B (.slice none 0 0) []:=⟨World.ownsRow_nil _ _ _ _,fun x hx=>by cases hx⟩
theorem Tks.touch {S:Nat→Prop} {W W':World} {B:Nat} {tv:Value} {m:List Tkm} (h:Tks W B tv m) (ht:Touch S W W') (hS:∀ i,S i→i<B):Tks W' B tv m:=
 ⟨ownsRow_touch h.own ht fun i hi he=>by have:=h.own.lt i hi;have:=hS i he;omega,fun x hx=>⟨(h.av x hx).1.touch ht hS,(h.av x hx).2⟩⟩
theorem AtV.own_ne {W:World} {B B':Nat} {tv sv:Value} {l:List At} {n:Nat} {ys:List Value} (h:AtV W B sv l) (ho:W.ownsRow B' 44 6 tv n ys):∀ i,tv.ownBlock=some i→sv.ownBlock≠some i:=fun i hi he=>by
 obtain ⟨a,cc,h1,h2⟩:=h
 subst h1
 obtain ⟨cur,hc⟩:=own_cells ho hi
 obtain ⟨cur',hc'⟩:=own_cells h2 he
 rw [hc] at hc'
 injection hc' with hc'
 injection hc' with _ h3 _
 cases h3
theorem AtV.touch2 {S:Nat→Prop} {w w':World} {B:Nat} {sv:Value} {l:List At} (h:AtV w B sv l) (ht:Touch S w w') (hS:∀ i,S i→sv.ownBlock≠some i):AtV w' B sv l:=by
 obtain ⟨a,cc,h1,h2⟩:=h
 subst h1
 exact ⟨a,cc,rfl,ownsRow_touch h2 ht fun i hi he=>hS i he hi⟩
theorem Tks.apd {W W':World} {B:Nat} {tv tv':Value} {m:List Tkm} (h:Tks W B tv m) (x:Tkm) (hx:AtV W B x.2 x.1.1.a) (hl:x.1.1.a.length≤256) (hA:Apd W B 44 6 tv (m.length+1) (tkcs m++tkv x) tv' W'):Tks W' B tv' (m++[x]):=by
 have e:tkcs (m++[x])=tkcs m++tkv x:=by simp [tkcs]
 refine ⟨by rw [e,List.length_append];exact hA.own,fun y hy=>?_⟩
 rcases List.mem_append.1 hy with hy | hy
 ·exact ⟨(h.av y hy).1.touch2 hA.touch fun i hi=>(h.av y hy).1.own_ne h.own i hi,(h.av y hy).2⟩
 ·rw [List.mem_singleton.1 hy]
  exact ⟨hx.touch2 hA.touch fun i hi=>hx.own_ne h.own i hi,hl⟩
theorem cells_six (w:World) (e:TypeId) (u0 u1 u2 u3 u4 u5:Value):CellsAt (w.alloc (.cells #[u0,u1,u2,u3,u4,u5] e)) (.slice (some ⟨w.heap.size,0,none⟩) 1 1) 1 [u0,u1,u2,u3,u4,u5]:=by
 refine .inr ⟨_,_,rfl,fun j x hx=>?_⟩
 have hj:j<6:=by
  have:=(List.getElem?_eq_some_iff.1 hx).1
  simpa using this
 rw [Addr.add_lit,World.cell?_alloc_at _ _ _ _ rfl]
 simpa using hx
def TsTo (p:Nat) (r:Except (Nat × Nat) (List (Tk × Nat))) (w:World) (e:Ending) (w':World):Prop:=
 Touch (fun i=>i=p) w w'∧match r with
  | .error (a,er)=>e = .returned (.tuple #[.slice none 0 0,.int .i64 (a:Nat),.int .i64 (er:Nat)])
  | .ok l=>∃ tv m,e = .returned (.tuple #[tv,.int .i64 0,.int .i64 0])∧m.map Prod.fst=l∧Tks w' w.heap.size tv m
theorem Tks.mono {W:World} {B B':Nat} {tv:Value} {m:List Tkm} (h:Tks W B tv m) (hB:B'≤B):Tks W B' tv m:=
 ⟨World.ownsRow.mono h.own hB,fun x hx=>⟨(h.av x hx).1.mono hB,(h.av x hx).2⟩⟩
structure TFr (w W:World) (p:Nat) (tv:Value):Prop where
 b0:Blk W w.heap.size 49 #[.pointer (some ⟨p,0,none⟩)]
 b1:Blk W (w.heap.size+1) 25 #[tv]
 b2:Blk W (w.heap.size+1+1) 3 #[.int .i64 0]
 b3:Blk W (w.heap.size+1+1+1) 26 #[.int .i64 0]
 tch:Touch (fun i=>i=p) w W
 lt:p<w.heap.size
theorem TFr.step {w W W':World} {p:Nat} {tv:Value} (h:TFr w W p tv) (ht:Touch (fun i=>i=p) W W'):TFr w W' p tv:=by
 have:=h.lt
 exact ⟨h.b0.touch ht (by omega),h.b1.touch ht (by omega),h.b2.touch ht (by omega),h.b3.touch ht (by omega),h.tch.trans ht,h.lt⟩
theorem TFr.set {w W:World} {p:Nat} {tv:Value} (h:TFr w W p tv) (u:Value):TFr w (W.setCell ⟨w.heap.size+1,0,none⟩ u) p u:=by
 have:=h.lt
 have ht:=touch_set (w.heap.size+1) 0 W u
 exact ⟨h.b0.touch ht (by omega),h.b1.setCell 0 u,h.b2.touch ht (by omega),h.b3.touch ht (by omega),h.tch.trans' ht fun i hi hlt=>by omega,h.lt⟩
abbrev t3 (w W:World) (v1 v2 v3:Value):World:=((W.setCell ⟨w.heap.size+1,0,none⟩ v1).setCell ⟨w.heap.size+1+1,0,none⟩ v2).setCell ⟨w.heap.size+1+1+1,0,none⟩ v3
theorem TFr.fin {w W:World} {p:Nat} {tv:Value} (h:TFr w W p tv) (v1 v2 v3:Value) :
  (t3 w W v1 v2 v3).cell? ⟨w.heap.size+1,0,none⟩=some v1∧(t3 w W v1 v2 v3).cell? ⟨w.heap.size+1+1,0,none⟩=some v2∧(t3 w W v1 v2 v3).cell? ⟨w.heap.size+1+1+1,0,none⟩=some v3∧Touch (fun i=>i=p) w (t3 w W v1 v2 v3)∧Touch (fun i=>w.heap.size+1≤i∧i<w.heap.size+4) W (t3 w W v1 v2 v3):=by
 have ht:Touch (fun i=>w.heap.size+1≤i∧i<w.heap.size+4) W (t3 w W v1 v2 v3):=(((touch_set (w.heap.size+1) 0 W v1).mono fun i hi=>by omega).trans ((touch_set (w.heap.size+1+1) 0 _ v2).mono fun i hi=>by omega)).trans ((touch_set (w.heap.size+1+1+1) 0 _ v3).mono fun i hi=>by omega)
 have k1:=((h.b1.setCell 0 v1).other (g':=w.heap.size+1+1) 0 v2 (by omega)).other (g':=w.heap.size+1+1+1) 0 v3 (by omega)
 have k2:=((h.b2.other (g':=w.heap.size+1) 0 v1 (by omega)).setCell 0 v2).other (g':=w.heap.size+1+1+1) 0 v3 (by omega)
 have k3:=((h.b3.other (g':=w.heap.size+1) 0 v1 (by omega)).other (g':=w.heap.size+1+1) 0 v2 (by omega)).setCell 0 v3
 exact ⟨(k1.cell 0).trans rfl,(k2.cell 0).trans rfl,(k3.cell 0).trans rfl,h.tch.trans' ht fun i hi hlt=>by omega,ht⟩
structure TSt (RES:Except (Nat × Nat) (List (Tk × Nat))) (w wr:World) (p:Nat) (ao:Option Addr) (c:Nat) (xs:List Nat) (k:Nat) (tv:Value) (m:List Tkm):Prop where
 tks:Tks wr (w.heap.size+4) tv m
 scn:∃ bg,Scn wr p ao c xs bg k
 fr:TFr w wr p tv
 len:m.length≤k
 st:RES=match tsA k (xs.drop k) with
  | .error e => .error e
  | .ok l => .ok (m.map Prod.fst++l)
theorem TFr.step2 {w W W':World} {p:Nat} {tv:Value} (h:TFr w W p tv) (ht:Touch (fun i=>w.heap.size+1+1+1<i) W W'):TFr w W' p tv:=
 ⟨h.b0.touch ht (by omega),h.b1.touch ht (by omega),h.b2.touch ht (by omega),h.b3.touch ht (by omega),h.tch.trans' ht fun i hi hlt=>by omega,h.lt⟩
theorem TSt.next {RES:Except (Nat × Nat) (List (Tk × Nat))} {w w2 w4 w5:World} {p:Nat} {ao:Option Addr} {c:Nat} {xs:List Nat} {k n:Nat} {tv tv' sv:Value} {m:List Tkm} {t:Tk} (h0:Scn w p ao c xs 0 0) (hl:m.length≤k)
  (FR2:TFr w w2 p tv) (HS2:Scn w2 p ao c xs k (k+n)) (TK2:Tks w2 (w.heap.size+4) tv m) (hav:AtV w2 (w.heap.size+4) sv t.a) (hla:t.a.length≤256)
  (hst:RES=match (match tsA (k+n) ((xs.drop k).drop n) with
   | .error e => .error e
   | .ok l => .ok ((t,k)::l):Except (Nat × Nat) (List (Tk × Nat))) with
  | .error e => .error e
  | .ok l => .ok (m.map Prod.fst++l)) (hn:0<n) (hT:Touch (fun i=>w2.heap.size≤i) w2 w4) (hA:Apd w4 (w.heap.size+4) 44 6 tv (m.length+1) (tkcs m++tkv ((t,k),sv)) tv' w5) :
  Blk w5 (w.heap.size+1) 25 #[tv]∧TSt RES w (w5.setCell ⟨w.heap.size+1,0,none⟩ tv') p ao c xs (k+n) tv' (m++[((t,k),sv)]):=by
 have hz:=FR2.b3.lt
 have FR4:TFr w w4 p tv:=FR2.step2 (hT.mono fun i hi=>by omega)
 have TK4:Tks w4 (w.heap.size+4) tv m:=⟨ownsRow_touch TK2.own hT fun i hi he=>by have:=TK2.own.lt i hi;omega,fun x hx=>⟨(TK2.av x hx).1.touch2 hT fun i hi he=>by
  obtain ⟨a,cc,h1,h2⟩:=(TK2.av x hx).1
  rw [h1] at he
  have:=h2.lt i he
  omega,(TK2.av x hx).2⟩⟩
 have hav4:AtV w4 (w.heap.size+4) sv t.a:=hav.touch2 hT fun i hi he=>by
  obtain ⟨a,cc,h1,h2⟩:=hav
  rw [h1] at he
  have:=h2.lt i he
  omega
 have hA2:Touch (fun i=>w.heap.size+1+1+1<i) w4 w5:=hA.touch.mono fun i hi=>by have:=TK4.own.lt i hi;omega
 have FR5:=FR4.step2 hA2
 have TK5:=TK4.apd ((t,k),sv) hav4 hla hA
 have ht6:=touch_set (w.heap.size+1) 0 w5 tv'
 have T26:Touch (fun i=>w.heap.size≤i) w2 (w5.setCell ⟨w.heap.size+1,0,none⟩ tv'):=((hT.mono fun i hi=>by omega:Touch (fun i=>w.heap.size≤i) w2 w4).trans (hA2.mono fun i hi=>by omega)).trans (ht6.mono fun i hi=>by omega)
 refine ⟨FR5.b1,⟨TK5.touch ht6 (fun i hi=>by omega),⟨k,HS2.touch T26 (by have:=FR2.lt;omega) (fun i hi=>by have:=h0.tt.size;omega) (fun ad e hne hS=>by
  obtain ⟨v,hv⟩:=h0.src_lt ad e hne
  have:=World.block_lt_of_cell? w _ hv
  simp only at this
  omega)⟩,FR5.set tv',by rw [List.length_append,List.length_singleton];omega,?_⟩⟩
 rw [hst,List.drop_drop]
 rcases tsA (k+n) (xs.drop (k+n)) with e | l
 ·rfl
 ·simp
set_option maxHeartbeats 6400000 in
theorem tokens_any (w:World) (p:Nat) (ao:Option Addr) (c:Nat) (xs:List Nat) (h:Scn w p ao c xs 0 0) :
  Calls Tryz.prog 23 #[.pointer (some ⟨p,0,none⟩)] w (TsTo p (tsP xs) w):=by
 have hmf:∀ (fn:Fn) (first cap:Array Value) (w:World),(Instr.makeFunc fn first cap).run Tryz.prog w = .ok (.func fn first cap) w:=fun _ _ _ _=>rfl
 have H:=Lib.hid h
 have hlen:=h.len
 obtain ⟨RES,hRES⟩:∃ RES,RES=tsP xs:=⟨_,rfl⟩
 rw [←hRES]
 obtain ⟨w4,hw4⟩:∃ w4,w4=(((w.alloc (.cells #[.pointer (some ⟨p,0,none⟩)] 49)).alloc (.cells #[.slice none 0 0] 25)).alloc (.cells #[.int .i64 0] 3)).alloc (.cells #[.int .i64 0] 26):=⟨_,rfl⟩
 have HS0:Hid (TSt RES w w4 p ao c xs 0 (.slice none 0 0) []):=Lib.hid (by
  have a1:=lit_below w (.cells #[.pointer (some ⟨p,0,none⟩)] 49)
  have a2:=lit_below (w.alloc (.cells #[.pointer (some ⟨p,0,none⟩)] 49)) (.cells #[.slice none 0 0] 25)
  have a3:=lit_below ((w.alloc (.cells #[.pointer (some ⟨p,0,none⟩)] 49)).alloc (.cells #[.slice none 0 0] 25)) (.cells #[.int .i64 0] 3)
  have a4:=lit_below (((w.alloc (.cells #[.pointer (some ⟨p,0,none⟩)] 49)).alloc (.cells #[.slice none 0 0] 25)).alloc (.cells #[.int .i64 0] 3)) (.cells #[.int .i64 0] 26)
  rw [hw4]
  have k0:=(((Blk.made w 49 #[.pointer (some ⟨p,0,none⟩)]).below a2).below a3).below a4
  have k1:=((Blk.made (w.alloc (.cells #[.pointer (some ⟨p,0,none⟩)] 49)) 25 #[.slice none 0 0]).below a3).below a4
  have k2:=(Blk.made ((w.alloc (.cells #[.pointer (some ⟨p,0,none⟩)] 49)).alloc (.cells #[.slice none 0 0] 25)) 3 #[.int .i64 0]).below a4
  have k3:=Blk.made (((w.alloc (.cells #[.pointer (some ⟨p,0,none⟩)] 49)).alloc (.cells #[.slice none 0 0] 25)).alloc (.cells #[.int .i64 0] 3)) 26 #[.int .i64 0]
  simp only [alloc_size] at k1 k2 k3
  refine ⟨Tks.nil _ _,⟨0,(((h.below a1).below a2).below a3).below a4⟩,⟨k0,k1,k2,k3,(((Touch.of_below a1).trans (Touch.of_below a2)).trans (Touch.of_below a3)).trans (Touch.of_below a4),h.lt⟩,Nat.le_refl _,?_⟩
  rw [hRES]
  show tsA 0 xs=_
  rw [List.drop_zero]
  rcases tsA 0 xs with e | l <;> rfl)
 clear h hRES
 go_enter_defers Tryz.func23,Tryz.ntmps23
 go_wp2
 rw [←hw4]
 clear hw4
 go_loopg [] (xs.length) (fun gh wr=>∃ (k:Nat) (m:List Tkm) (a:Option Addr) (cc:Nat),Hid (TSt RES w wr p ao c xs k (.slice a m.length cc) m)∧xs.length-k≤gh∧k≤xs.length)
 case atStart=>exact ⟨0,[],none,0,HS0,by omega,Nat.zero_le _⟩
 case round=>
  clear HS0
  obtain ⟨k,m,a,cc,hst,hgh,hk⟩:=hrel
  have HST:=Lib.hid hst.out
  clear hst
  obtain ⟨bg,hsc⟩:=HST.out.scn
  have HSC:=Lib.hid hsc
  have p0:=hsc.c0
  have p2:=hsc.c2
  have p1:=hsc.c1
  have f1:=hsc.blk.free 1
  have x0:=(HST.out.fr.b0.cell 0).trans (show _=some (.pointer (some ⟨p,0,none⟩)) from rfl)
  have x1:=(HST.out.fr.b1.cell 0).trans (show _=some (.slice a m.length cc) from rfl)
  have y1:=HST.out.fr.b1.free 0
  have x2:=(HST.out.fr.b2.cell 0).trans (show _=some (.int .i64 0) from rfl)
  have y2:=HST.out.fr.b2.free 0
  have x3:=(HST.out.fr.b3.cell 0).trans (show _=some (.int .i64 0) from rfl)
  have y3:=HST.out.fr.b3.free 0
  clear hsc
  by_cases hkl:k<xs.length
  ·have hkl1:(k:Int)<xs.length:=by omega
   go_upto_region 2 with fail
   go_quiet (fail)
   go_upto_region 3 with fail
   go_region
   obtain ⟨w1,hw1⟩:∃ w1,w1=(wr.drewN (nq+1)).setCell ⟨p,1,none⟩ (.int .i64 (k:Nat)):=⟨_,rfl⟩
   have ht1:Touch (fun i=>i=p) wr w1:=by rw [hw1];exact ((Touch.refl _ wr).drewN _).trans (touch_set p 1 _ _)
   have hs1:Scn w1 p ao c xs k k:=by rw [hw1];exact (HSC.out.below (below_drewN (Below.refl _ wr) _)).set1 k
   rw [←hw1]
   clear hw1 p0 p1 p2 f1 x0 x1 y1 x2 y2 x3 y3
   have hpl:=HST.out.fr.lt
   have FR1:=Lib.hid (HST.out.fr.step ht1)
   have TK1:=Lib.hid (HST.out.tks.touch ht1 (fun i hi=>by omega))
   have HS1:=Lib.hid hs1
   have hne:xs.drop k≠[]:=by intro e;have:=congrArg List.length e;rw [List.length_drop] at this;simp at this;omega
   have K:=token_any w1 p ao c xs k k hs1 hne
   have hst:=HST.out.st
   rw [tsA_step k (HSC.out.bs.drop k) hne] at hst
   rcases hr:tkP (k == 0) (xs.drop k) with er | ⟨t,n⟩
   ·rw [hr] at K hst
    have HRR:Hid (RES = .error (k,er)):=Lib.hid hst
    have K:=Lib.hid K
    clear hst hr hne hs1 ht1
    have x0:=(FR1.out.b0.cell 0).trans (show _=some (.pointer (some ⟨p,0,none⟩)) from rfl)
    go_wp2_with (go_at_call 43;refine K.out.mono ?_;rintro e w2 ⟨ht2,rfl,k2,hs2⟩;have FR2:=Lib.hid (FR1.out.step ht2);have HS2:=Lib.hid hs2;clear ht2 hs2)
    obtain ⟨e1,e2,e3,e4,e5⟩:=FR2.out.fin (.slice none 0 0) (.int .i64 (k:Nat)) (.int .i64 (er:Nat))
    refine leaves_cons (f:=42) (args := #[.pointer (some ⟨w.heap.size,0,none⟩),.pointer (some ⟨w.heap.size+1,0,none⟩),.pointer (some ⟨w.heap.size+1+1,0,none⟩),.pointer (some ⟨w.heap.size+1+1+1,0,none⟩)]) (by simp) (by simp [go_sem]) ?_
    refine (tcatch_panicking _ _ _ _ p er k _ (.slice a m.length cc) ⟨_,_,_,rfl⟩ ((FR2.out.b0.cell 0).trans rfl) HS2.out.c1 FR2.out.b1 FR2.out.b2 FR2.out.b3 (by omega) (by omega) (by omega)).mono ?_
    rintro e u' w'' ⟨rfl,rfl,rfl⟩
    simp [Leaves,settle,results,Tryz.results23,go_sem,e1,e2,e3]
    refine ⟨e4,?_⟩
    rw [HRR.out]
   ·rw [hr] at K hst
    have hml:=HST.out.len
    obtain ⟨hn1,hn2⟩:=tkP_ok (HSC.out.bs.drop k) hne hr
    rw [List.length_drop] at hn2
    have K:=Lib.hid K
    have HSTN:=Lib.hid hst
    clear hst hr hne hs1 ht1
    have x0:=(FR1.out.b0.cell 0).trans (show _=some (.pointer (some ⟨p,0,none⟩)) from rfl)
    go_wp2_with (first
     | (go_at_call 43;refine K.out.mono ?_;rintro e w2 ⟨ht2,sv,rfl,hav2,hs2,hl2⟩;obtain ⟨sa,sc,rfl,hown2⟩:=hav2;have FR2:=Lib.hid (FR1.out.step ht2);have HS2:=Lib.hid hs2;have TK2:=Lib.hid (TK1.out.touch ht2 (fun i hi=>by omega));have HO2:=Lib.hid hown2;clear ht2 hs2 hown2;have FR3:=Lib.hid (FR2.out.step2 ((Touch.of_below (S:=fun i=>w.heap.size+1+1+1<i) (lit_below w2 (.cells #[.int .i64 (t.k:Nat),.string (txt t.n),.string (txt t.t),.slice sa t.a.length sc,.bool t.e,.int .i64 0] 44)))));have z0:=(FR3.out.b0.cell 0).trans (show _=some (.pointer (some ⟨p,0,none⟩)) from rfl);have z1:=(HS2.out.below (lit_below w2 (.cells #[.int .i64 (t.k:Nat),.string (txt t.n),.string (txt t.t),.slice sa t.a.length sc,.bool t.e,.int .i64 0] 44))).c1;have t3:Touch (fun i=>w2.heap.size≤i) w2 (w2.alloc (.cells #[.int .i64 (t.k:Nat),.string (txt t.n),.string (txt t.t),.slice sa t.a.length sc,.bool t.e,.int .i64 (k:Nat)] 44)):=Touch.of_below (lit_below w2 (.cells #[.int .i64 (t.k:Nat),.string (txt t.n),.string (txt t.t),.slice sa t.a.length sc,.bool t.e,.int .i64 (k:Nat)] 44));have FR4:=Lib.hid (FR2.out.step2 (t3.mono (fun i hi=>by have:=FR2.out.b3.lt;omega)));have t4:Touch (fun i=>w2.heap.size≤i) w2 ((w2.alloc (.cells #[.int .i64 (t.k:Nat),.string (txt t.n),.string (txt t.t),.slice sa t.a.length sc,.bool t.e,.int .i64 (k:Nat)] 44)).alloc (.cells #[.int .i64 (t.k:Nat),.string (txt t.n),.string (txt t.t),.slice sa t.a.length sc,.bool t.e,.int .i64 (k:Nat)] 44)):=t3.trans' (Touch.of_below (lit_below _ (.cells #[.int .i64 (t.k:Nat),.string (txt t.n),.string (txt t.t),.slice sa t.a.length sc,.bool t.e,.int .i64 (k:Nat)] 44)):Touch (fun _=>False) _ _) (fun i hi=>hi.elim);have T4:=Lib.hid t4;have hz4:=FR2.out.b3.lt;have HOA:=Lib.hid (ownsRow_touch TK2.out.own t4 (fun i hi he=>by have:=TK2.out.own.lt i hi;omega));clear t3 t4;have z2:=(FR4.out.b1.cell 0).trans (show _=some (.slice a m.length cc) from rfl))
     | (at_builtin;(refine wpList_append_x at25 rfl (.tmp 31) (.tmp 33) rfl (w.heap.size+4) (.slice a m.length cc) (.slice (some ⟨w2.heap.size+1,0,none⟩) 1 1) m.length 1 (tkcs m) (tkv ((t,k),.slice sa t.a.length sc)) rfl rfl HOA.out (by have:=cells_six (w2.alloc (.cells #[.int .i64 (t.k:Nat),.string (txt t.n),.string (txt t.t),.slice sa t.a.length sc,.bool t.e,.int .i64 (k:Nat)] 44)) 44 (.int .i64 (t.k:Nat)) (.string (txt t.n)) (.string (txt t.t)) (.slice sa t.a.length sc) (.bool t.e) (.int .i64 (k:Nat));rw [alloc_size] at this;exact this) rfl (by intro u hu;simp [tkv] at hu;rcases hu with rfl | rfl | rfl | rfl | rfl | rfl <;> rfl) (by rw [alloc_size,alloc_size];omega) (by omega) (by omega) ?_);intro a2 c2 w5 hA;obtain ⟨bk5,hst5⟩:=TSt.next (w:=w) H.out hml FR2.out HS2.out TK2.out ⟨sa,sc,rfl,World.ownsRow.mono HO2.out (by have:=FR1.out.b3.lt;omega)⟩ hl2 HSTN.out hn1 T4.out hA;have z5:=(bk5.cell 0).trans (show _=some (.slice a m.length cc) from rfl);have g5:=bk5.free 0;have HX:=Lib.hid hst5;clear hst5 bk5 hA))
    go_roundg (xs.length-(k+n))
    case measure=>omega
    case rel=>exact ⟨k+n,m++[((t,k),.slice sa t.a.length sc)],a2,c2,by rw [List.length_append,List.length_singleton];exact HX,Nat.le_refl _,by omega⟩
  ·have hkl2:¬((k:Int)<xs.length):=by omega
   go_upto_region 2 with fail
   go_quiet (fail)
   go_wp2
   have hke:k=xs.length:=by omega
   have hst:=HST.out.st
   rw [hke,List.drop_length,tsA_nil] at hst
   obtain ⟨e1,e2,e3,e4,e5⟩:=(HST.out.fr.step ((Touch.refl _ wr).drewN nq)).fin (.slice a m.length cc) (.int .i64 0) (.int .i64 0)
   refine leaves_cons (f:=42) (args := #[.pointer (some ⟨w.heap.size,0,none⟩),.pointer (some ⟨w.heap.size+1,0,none⟩),.pointer (some ⟨w.heap.size+1+1,0,none⟩),.pointer (some ⟨w.heap.size+1+1+1,0,none⟩)]) (by simp) (by simp [go_sem]) ?_
   refine (tcatch_idle _ _ _ _ _).mono ?_
   rintro e u' w'' ⟨rfl,rfl,rfl⟩
   simp only [Leaves,settle,results,Tryz.results23,go_sem]
   simp [e1,e2,e3]
   refine ⟨e4,?_⟩
   rw [hst]
   exact ⟨_,m,rfl,by simp,((HST.out.tks.touch ((Touch.refl (fun _=>False) wr).drewN nq) (fun _ h=>h.elim)).touch e5 (fun i hi=>by omega)).mono (by omega)⟩
end
end Go.Proofs.YtbogfailbgbdoaaGreatDoor.K
