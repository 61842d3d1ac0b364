/- Part 9. -/
import Derived.Deep.Onto
import Derived.Test.YtbogfailbgbdoaaGreatDoorXB8
set_option linter.unusedVariables false
set_option linter.unusedSimpArgs false
namespace Go.Proofs.YtbogfailbgbdoaaGreatDoor.K
set_option maxRecDepth 100000
section
open Go.RowKit Go.Proofs.YtbogfailbgbdoaaGreatDoor U
abbrev z44:Array Value := #[.int .i64 0,.string ⟨#[]⟩,.string ⟨#[]⟩,.slice none 0 0,.bool false,.int .i64 0]
abbrev tkc (t:Tk) (sv:Value) (at_:Int):Array Value := #[.int .i64 (t.k:Nat),.string (txt t.n),.string (txt t.t),sv,.bool t.e,.int .i64 at_]
def AtV (w:World) (B:Nat) (sv:Value) (l:List At):Prop:=∃ a cc,sv = .slice a l.length cc∧w.ownsRow B 46 2 (.slice a l.length cc) l.length (atc l)
theorem AtV.nil (w:World) (B:Nat):AtV w B (.slice none 0 0) []:=⟨none,0,rfl,World.ownsRow_nil _ _ _ _⟩
def TkTo (p:Nat) (ao:Option Addr) (c:Nat) (xs:List Nat) (bg k:Nat) (r:Except Nat (Tk × Nat)) (w:World) (e:Ending) (w':World):Prop:=
 Touch (fun i=>i=p) w w'∧match r with
  | .error er=>e=kpan er∧∃ k',Scn w' p ao c xs bg k'
  | .ok (t,n)=>∃ sv,e = .returned (.agg (tkc t sv 0))∧AtV w' w.heap.size sv t.a∧Scn w' p ao c xs bg (k+n)∧t.a.length≤256
structure Rd (w W:World) (p:Nat) (ao:Option Addr) (c:Nat) (xs:List Nat) (bg k:Nat):Prop where
 tch:Touch (fun i=>i=p) w W
 scn:Scn W p ao c xs bg k
 blk:Blk W w.heap.size 44 z44
 lt:p<w.heap.size
section
variable {w W W':World} {p:Nat} {ao:Option Addr} {c:Nat} {xs:List Nat} {bg k k':Nat}
theorem Rd.init (h:Scn w p ao c xs bg k):Rd w (w.alloc (.cells z44 44)) p ao c xs bg k:=
 ⟨Touch.of_below (lit_below _ _),h.below (lit_below _ _),Blk.made _ _ _,h.lt⟩
theorem Rd.step (h:Rd w W p ao c xs bg k) (ht:Touch (fun i=>i=p) W W') (hs:Scn W' p ao c xs bg k'):Rd w W' p ao c xs bg k':=
 ⟨h.tch.trans ht,hs,h.blk.touch ht (by have:=h.lt;omega),h.lt⟩
theorem Rd.below (h:Rd w W p ao c xs bg k) (hb:Below W.heap.size W W'):Rd w W' p ao c xs bg k:=h.step (Touch.of_below hb) (h.scn.below hb)
theorem Rd.ce (h:Rd w W p ao c xs bg k):W.cell? ⟨w.heap.size,0,none⟩=some (.int .i64 0)∧W.cell? ⟨w.heap.size,1,none⟩=some (.string ⟨#[]⟩)∧W.cell? ⟨w.heap.size,2,none⟩=some (.string ⟨#[]⟩)∧W.cell? ⟨w.heap.size,3,none⟩=some (.slice none 0 0)∧W.cell? ⟨w.heap.size,4,none⟩=some (.bool false)∧W.cell? ⟨w.heap.size,5,none⟩=some (.int .i64 0):=
 ⟨(h.blk.cell 0).trans rfl,(h.blk.cell 1).trans rfl,(h.blk.cell 2).trans rfl,(h.blk.cell 3).trans rfl,(h.blk.cell 4).trans rfl,(h.blk.cell 5).trans rfl⟩
theorem Rd.fr (h:Rd w W p ao c xs bg k):W.frozen? ⟨w.heap.size,0,none⟩=false∧W.frozen? ⟨w.heap.size,1,none⟩=false∧W.frozen? ⟨w.heap.size,2,none⟩=false∧W.frozen? ⟨w.heap.size,3,none⟩=false∧W.frozen? ⟨w.heap.size,4,none⟩=false∧W.frozen? ⟨w.heap.size,5,none⟩=false:=
 ⟨h.blk.free 0,h.blk.free 1,h.blk.free 2,h.blk.free 3,h.blk.free 4,h.blk.free 5⟩
abbrev st6 (W:World) (q:Nat) (x0 x1 x2 x3 x4 x5:Value):World:=(((((W.setCell ⟨q,0,none⟩ x0).setCell ⟨q,1,none⟩ x1).setCell ⟨q,2,none⟩ x2).setCell ⟨q,3,none⟩ x3).setCell ⟨q,4,none⟩ x4).setCell ⟨q,5,none⟩ x5
theorem st6_touch (W:World) (q:Nat) (x0 x1 x2 x3 x4 x5:Value):Touch (fun i=>i=q) W (st6 W q x0 x1 x2 x3 x4 x5):=
 (((((touch_set q 0 W _).trans (touch_set q 1 _ _)).trans (touch_set q 2 _ _)).trans (touch_set q 3 _ _)).trans (touch_set q 4 _ _)).trans (touch_set q 5 _ _)
theorem st6_blk {W:World} {q:Nat} (h:Blk W q 44 z44) (x0 x1 x2 x3 x4 x5:Value):Blk (st6 W q x0 x1 x2 x3 x4 x5) q 44 #[x0,x1,x2,x3,x4,x5]:=
 (((((h.setCell 0 x0).setCell 1 x1).setCell 2 x2).setCell 3 x3).setCell 4 x4).setCell 5 x5
theorem Rd.done (h:Rd w W p ao c xs bg k') (h0:7≤w.heap.size) (hap:∀ ad,ao=some ad→xs≠[]→ad.block≠w.heap.size) (t:Tk) (n:Nat) (sv:Value) (hk:k'=k+n) (ha:AtV W (w.heap.size+1) sv t.a) (hl:t.a.length≤256) :
  TkTo p ao c xs bg k (.ok (t,n)) w (.returned (.agg (tkc t sv 0))) (st6 W w.heap.size (.int .i64 (t.k:Nat)) (.string (txt t.n)) (.string (txt t.t)) sv (.bool t.e) (.int .i64 0)):=by
 subst hk
 have ht:=st6_touch W w.heap.size (.int .i64 (t.k:Nat)) (.string (txt t.n)) (.string (txt t.t)) sv (.bool t.e) (.int .i64 0)
 refine ⟨h.tch.trans' ht fun i hi hlt=>by omega,sv,rfl,?_,h.scn.touch ht (by have:=h.lt;omega) (fun i hi=>by omega) (fun ad e hne hS=>hap ad e hne hS),hl⟩
 obtain ⟨a,cc,h1,h2⟩:=ha
 refine ⟨a,cc,h1,World.ownsRow.mono (ownsRow_touch h2 ht fun i hi he=>?_) (by omega)⟩
 have:=h2.lt i hi
 omega
theorem Scn.apart (h:Scn w p ao c xs bg k):∀ ad,ao=some ad→xs≠[]→ad.block≠w.heap.size:=fun ad e hne he=>by
 obtain ⟨v,hv⟩:=h.src_lt ad e hne
 have:=World.block_lt_of_cell? w _ hv
 simp only at this
 omega
end
theorem res72 {t:Array Value} {W:World} {q:Nat} {x0 x1 x2 x3 x4 x5:Value} (h2:t[2]? = some (.pointer (some ⟨q,0,none⟩))) (h:Blk W q 44 #[x0,x1,x2,x3,x4,x5]) :
  (results Tryz.f72 t).run Tryz.prog W = .ok (.agg #[x0,x1,x2,x3,x4,x5]) W:=by
 have e0:=(h.cell 0).trans (show _=some x0 from rfl)
 have e1:=(h.cell 1).trans (show _=some x1 from rfl)
 have e2:=(h.cell 2).trans (show _=some x2 from rfl)
 have e3:=(h.cell 3).trans (show _=some x3 from rfl)
 have e4:=(h.cell 4).trans (show _=some x4 from rfl)
 have e5:=(h.cell 5).trans (show _=some x5 from rfl)
 simp [results,Tryz.results72,h2,go_sem,e0,e1,e2,e3,e4,e5]
section
variable (w:World) (p:Nat) (ao:Option Addr) (c:Nat) (xs:List Nat) (bg k:Nat)
theorem bs1 (x:Nat) (h:x<256):Bs [x]:=fun y hy=>by simp at hy;omega
set_option maxHeartbeats 3200000 in
theorem remark_any (h:Scn w p ao c xs bg k) :
  Calls Tryz.prog 72 #[.pointer (some ⟨p,0,none⟩)] w (TkTo p ao c xs bg k (rmP (xs.drop k)) w):=by
 have H:=Lib.hid h
 have R0:=Lib.hid (Rd.init h)
 obtain ⟨w0,hw0⟩:∃ w0,w0=w.alloc (.cells z44 44):=⟨_,rfl⟩
 rw [←hw0] at R0
 have h7:=h.tt.size
 obtain ⟨RR,hRR⟩:∃ RR,RR=rmP (xs.drop k):=⟨_,rfl⟩
 rw [←hRR]
 unfold rmP upP at hRR
 rcases hi:ix [45,45] (xs.drop k) with _ | i
 ·rw [hi] at hRR
  have HRR:Hid (RR = .error 22):=Lib.hid hRR
  have K1:=Lib.hid (upTo_no w0 p ao c xs bg k ⟨#[45,45]⟩ [45,45] rfl (bsl _ rfl) (by simp) hi R0.out.scn)
  clear h hRR hi
  go_enter Tryz.func72,Tryz.ntmps72
  go_wp2_with (rw [←hw0];clear hw0;go_at_call 73;refine K1.out.mono ?_;rintro e w1 ⟨rfl,hb1⟩;have R1:=Lib.hid (R0.out.below hb1);clear hb1)
  refine ⟨rfl,?_⟩
  rw [HRR.out]
  exact ⟨R1.out.tch,rfl,_,R1.out.scn⟩
 ·rw [hi] at hRR
  simp only at hRR
  have K1:=Lib.hid (upTo_yes w0 p ao c xs bg k ⟨#[45,45]⟩ [45,45] i rfl (bsl _ rfl) (by simp) hi R0.out.scn)
  generalize hA:txt ((xs.drop k).take i)=A at K1
  by_cases hp:[62] <+: (xs.drop k).drop (i+2)
  ·rw [if_pos hp] at hRR
   have HRR:=Lib.hid hRR
   have hp':[62] <+: xs.drop (k+i+[45,45].length):=by rw [List.drop_drop] at hp;exact hp
   have K2:Hid (∀ W,Scn W p ao c xs bg (k+i+[45,45].length)→Calls Tryz.prog 70 #[.pointer (some ⟨p,0,none⟩),.string ⟨#[62]⟩] W fun e w'=>e = .returned (.bool true)∧Touch (fun i=>i=p) W w'∧Scn w' p ao c xs bg (k+i+[45,45].length+[62].length)):=Lib.hid fun W hW=>takes_yes W p ao c xs bg _ ⟨#[62]⟩ [62] rfl (bsl _ rfl) (by simp) hp' hW
   have HA:=Lib.hid hA
   clear h hRR hi hp hp' hA
   go_enter Tryz.func72,Tryz.ntmps72
   go_wp2_with (first
    | (rw [←hw0];clear hw0;go_at_call 73;refine K1.out.mono ?_;rintro e w1 ⟨rfl,ht1,hs1⟩;have R1:=Lib.hid (R0.out.step ht1 hs1);clear ht1 hs1)
    | (go_at_call 70;(with_reducible refine (K2.out w1 R1.out.scn).mono ?_);rintro e w2 ⟨rfl,ht2,hs2⟩;have R2:=Lib.hid (R1.out.step ht2 hs2);clear ht2 hs2)
    | (go_at_call 97;refine (must_yes 22 w2).mono ?_;rintro e w3 ⟨rfl,rfl⟩;obtain ⟨r0,r1,r2,r3,r4,r5⟩:=R2.out.ce;obtain ⟨g0,g1,g2,g3,g4,g5⟩:=R2.out.fr))
   refine bodyPost_ret (res72 rfl (st6_blk R2.out.blk _ _ _ _ _ _)) rfl ?_
   rw [HRR.out,←HA.out]
   exact R2.out.done h7 H.out.apart ⟨3,[],(xs.drop k).take i,[],false⟩ (i+2+1) (.slice none 0 0) (by simp;omega) (AtV.nil _ _) (by simp)
  ·rw [if_neg hp] at hRR
   have HRR:=Lib.hid hRR
   have hp':¬[62] <+: xs.drop (k+i+[45,45].length):=by rw [List.drop_drop] at hp;exact hp
   have K2:Hid (∀ W,Scn W p ao c xs bg (k+i+[45,45].length)→Calls Tryz.prog 70 #[.pointer (some ⟨p,0,none⟩),.string ⟨#[62]⟩] W fun e w'=>e = .returned (.bool false)∧Below W.heap.size W w'):=Lib.hid fun W hW=>takes_no W p ao c xs bg _ ⟨#[62]⟩ [62] rfl (bsl _ rfl) (by simp) hp' hW
   clear h hRR hi hp hp' hA
   go_enter Tryz.func72,Tryz.ntmps72
   go_wp2_with (first
    | (rw [←hw0];clear hw0;go_at_call 73;refine K1.out.mono ?_;rintro e w1 ⟨rfl,ht1,hs1⟩;have R1:=Lib.hid (R0.out.step ht1 hs1);clear ht1 hs1)
    | (go_at_call 70;(with_reducible refine (K2.out w1 R1.out.scn).mono ?_);rintro e w2 ⟨rfl,hb2⟩;have R2:=Lib.hid (R1.out.below hb2);clear hb2)
    | (go_at_call 97;refine (must_no 22 w2).mono ?_;rintro e w3 ⟨rfl,rfl⟩))
   refine ⟨rfl,?_⟩
   rw [HRR.out]
   exact ⟨R2.out.tch,rfl,_,R2.out.scn⟩
end
theorem res74 {t:Array Value} {W:World} {q:Nat} {x0 x1 x2 x3 x4 x5:Value} (h2:t[2]? = some (.pointer (some ⟨q,0,none⟩))) (h:Blk W q 44 #[x0,x1,x2,x3,x4,x5]) :
  (results Tryz.f74 t).run Tryz.prog W = .ok (.agg #[x0,x1,x2,x3,x4,x5]) W:=by
 have e0:=(h.cell 0).trans (show _=some x0 from rfl)
 have e1:=(h.cell 1).trans (show _=some x1 from rfl)
 have e2:=(h.cell 2).trans (show _=some x2 from rfl)
 have e3:=(h.cell 3).trans (show _=some x3 from rfl)
 have e4:=(h.cell 4).trans (show _=some x4 from rfl)
 have e5:=(h.cell 5).trans (show _=some x5 from rfl)
 simp [results,Tryz.results74,h2,go_sem,e0,e1,e2,e3,e4,e5]
section
variable (w:World) (p:Nat) (ao:Option Addr) (c:Nat) (xs:List Nat) (bg k:Nat)
set_option maxHeartbeats 3200000 in
theorem end_any (h:Scn w p ao c xs bg k) :
  Calls Tryz.prog 74 #[.pointer (some ⟨p,0,none⟩)] w (TkTo p ao c xs bg k (enP (xs.drop k)) w):=by
 have H:=Lib.hid h
 have R0:=Lib.hid (Rd.init h)
 obtain ⟨w0,hw0⟩:∃ w0,w0=w.alloc (.cells z44 44):=⟨_,rfl⟩
 rw [←hw0] at R0
 have h7:=h.tt.size
 obtain ⟨RR,hRR⟩:∃ RR,RR=enP (xs.drop k):=⟨_,rfl⟩
 rw [←hRR]
 unfold enP at hRR
 have K1:=qualified_any w0 p ao c xs bg k R0.out.scn
 rcases hi:qnP (xs.drop k) with er | n
 ·rw [hi] at hRR K1
  have HRR:Hid (RR = .error er):=Lib.hid hRR
  have K1:=Lib.hid K1
  clear h hRR hi
  go_enter Tryz.func74,Tryz.ntmps74
  go_wp2_with (first
   | (go_at_call 103;rw [←hw0];clear hw0;refine K1.out.mono ?_;rintro e w1 ⟨ht1,rfl,k1,hs1⟩;have R1:=Lib.hid (R0.out.step ht1 hs1);clear ht1 hs1))
  refine ⟨rfl,?_⟩
  rw [HRR.out]
  exact ⟨R1.out.tch,rfl,_,R1.out.scn⟩
 ·rw [hi] at hRR K1
  simp only at hRR
  unfold StTo at K1
  simp only at K1
  generalize hA:txt ((xs.drop k).take n)=A at K1
  have K1:=Lib.hid K1
  obtain ⟨s,hs⟩:∃ s,s=sk blaP ((xs.drop k).drop n):=⟨_,rfl⟩
  rw [←hs] at hRR
  have hs':sk blaP (xs.drop (k+n))=s:=by rw [hs,List.drop_drop]
  have K2:Hid (∀ W,Scn W p ao c xs bg (k+n)→Calls Tryz.prog 101 #[.pointer (some ⟨p,0,none⟩)] W fun e w'=>e = .returned (.bool (decide (0<s)))∧Touch (fun i=>i=p) W w'∧Scn w' p ao c xs bg (k+n+s)):=Lib.hid fun W hW=>by
   have:=blanks_any W p ao c xs bg (k+n) hW
   rwa [hs'] at this
  by_cases hp:[62] <+: (xs.drop k).drop (n+s)
  ·rw [if_pos hp] at hRR
   have HRR:=Lib.hid hRR
   have hp':[62] <+: xs.drop (k+n+s):=by rw [List.drop_drop,←Nat.add_assoc] at hp;exact hp
   have K3:Hid (∀ W,Scn W p ao c xs bg (k+n+s)→Calls Tryz.prog 70 #[.pointer (some ⟨p,0,none⟩),.string ⟨#[62]⟩] W fun e w'=>e = .returned (.bool true)∧Touch (fun i=>i=p) W w'∧Scn w' p ao c xs bg (k+n+s+[62].length)):=Lib.hid fun W hW=>takes_yes W p ao c xs bg _ ⟨#[62]⟩ [62] rfl (bsl _ rfl) (by simp) hp' hW
   have HA:=Lib.hid hA
   clear h hRR hi hp hp' hA hs hs'
   go_enter Tryz.func74,Tryz.ntmps74
   go_wp2_with (first
    | (go_at_call 103;rw [←hw0];clear hw0;refine K1.out.mono ?_;rintro e w1 ⟨ht1,rfl,hs1⟩;have R1:=Lib.hid (R0.out.step ht1 hs1);clear ht1 hs1)
    | (go_at_call 101;(with_reducible refine (K2.out w1 R1.out.scn).mono ?_);rintro e w2 ⟨rfl,ht2,hs2⟩;have R2:=Lib.hid (R1.out.step ht2 hs2);clear ht2 hs2)
    | (go_at_call 70;(with_reducible refine (K3.out w2 R2.out.scn).mono ?_);rintro e w3 ⟨rfl,ht3,hs3⟩;have R3:=Lib.hid (R2.out.step ht3 hs3);clear ht3 hs3)
    | (go_at_call 97;refine (must_yes 22 w3).mono ?_;rintro e w9 ⟨rfl,rfl⟩;obtain ⟨r0,r1,r2,r3,r4,r5⟩:=R3.out.ce;obtain ⟨g0,g1,g2,g3,g4,g5⟩:=R3.out.fr))
   refine bodyPost_ret (res74 rfl (st6_blk R3.out.blk _ _ _ _ _ _)) rfl ?_
   rw [HRR.out,←HA.out]
   exact R3.out.done h7 H.out.apart ⟨6,(xs.drop k).take n,[],[],false⟩ (n+s+1) (.slice none 0 0) (by simp;omega) (AtV.nil _ _) (by simp)
  ·rw [if_neg hp] at hRR
   have HRR:=Lib.hid hRR
   have hp':¬[62] <+: xs.drop (k+n+s):=by rw [List.drop_drop,←Nat.add_assoc] at hp;exact hp
   have K3:Hid (∀ W,Scn W p ao c xs bg (k+n+s)→Calls Tryz.prog 70 #[.pointer (some ⟨p,0,none⟩),.string ⟨#[62]⟩] W fun e w'=>e = .returned (.bool false)∧Below W.heap.size W w'):=Lib.hid fun W hW=>takes_no W p ao c xs bg _ ⟨#[62]⟩ [62] rfl (bsl _ rfl) (by simp) hp' hW
   clear h hRR hi hp hp' hA hs hs'
   go_enter Tryz.func74,Tryz.ntmps74
   go_wp2_with (first
    | (go_at_call 103;rw [←hw0];clear hw0;refine K1.out.mono ?_;rintro e w1 ⟨ht1,rfl,hs1⟩;have R1:=Lib.hid (R0.out.step ht1 hs1);clear ht1 hs1)
    | (go_at_call 101;(with_reducible refine (K2.out w1 R1.out.scn).mono ?_);rintro e w2 ⟨rfl,ht2,hs2⟩;have R2:=Lib.hid (R1.out.step ht2 hs2);clear ht2 hs2)
    | (go_at_call 70;(with_reducible refine (K3.out w2 R2.out.scn).mono ?_);rintro e w3 ⟨rfl,hb3⟩;have R3:=Lib.hid (R2.out.below hb3);clear hb3)
    | (go_at_call 97;refine (must_no 22 w3).mono ?_;rintro e w9 ⟨rfl,rfl⟩))
   refine ⟨rfl,?_⟩
   rw [HRR.out]
   exact ⟨R3.out.tch,rfl,_,R3.out.scn⟩
end
theorem res71 {t:Array Value} {W:World} {q:Nat} {x0 x1 x2 x3 x4 x5:Value} (h2:t[2]? = some (.pointer (some ⟨q,0,none⟩))) (h:Blk W q 44 #[x0,x1,x2,x3,x4,x5]) :
  (results Tryz.f71 t).run Tryz.prog W = .ok (.agg #[x0,x1,x2,x3,x4,x5]) W:=by
 have e0:=(h.cell 0).trans (show _=some x0 from rfl)
 have e1:=(h.cell 1).trans (show _=some x1 from rfl)
 have e2:=(h.cell 2).trans (show _=some x2 from rfl)
 have e3:=(h.cell 3).trans (show _=some x3 from rfl)
 have e4:=(h.cell 4).trans (show _=some x4 from rfl)
 have e5:=(h.cell 5).trans (show _=some x5 from rfl)
 simp [results,Tryz.results71,h2,go_sem,e0,e1,e2,e3,e4,e5]
section
variable (w:World) (p:Nat) (ao:Option Addr) (c:Nat) (xs:List Nat) (bg k:Nat)
set_option maxHeartbeats 3200000 in
theorem instruction_any (h:Scn w p ao c xs bg k) :
  Calls Tryz.prog 71 #[.pointer (some ⟨p,0,none⟩)] w (TkTo p ao c xs bg k (piP (xs.drop k)) w):=by
 have H:=Lib.hid h
 have R0:=Lib.hid (Rd.init h)
 obtain ⟨w0,hw0⟩:∃ w0,w0=w.alloc (.cells z44 44):=⟨_,rfl⟩
 rw [←hw0] at R0
 have h7:=h.tt.size
 obtain ⟨RR,hRR⟩:∃ RR,RR=piP (xs.drop k):=⟨_,rfl⟩
 rw [←hRR]
 unfold piP at hRR
 have K1:=name_any w0 p ao c xs bg k R0.out.scn
 rcases hi:nmP (xs.drop k) with er | n
 ·rw [hi] at hRR K1
  have HRR:Hid (RR = .error er):=Lib.hid hRR
  have K1:=Lib.hid K1
  clear h hRR hi
  go_enter Tryz.func71,Tryz.ntmps71
  go_wp2_with (first
   | (go_at_call 99;rw [←hw0];clear hw0;refine K1.out.mono ?_;rintro e w1 ⟨ht1,rfl,k1,hs1⟩;have R1:=Lib.hid (R0.out.step ht1 hs1);clear ht1 hs1))
  refine ⟨rfl,?_⟩
  rw [HRR.out]
  exact ⟨R1.out.tch,rfl,_,R1.out.scn⟩
 ·rw [hi] at hRR K1
  simp only at hRR
  unfold StTo at K1
  simp only at K1
  have hbn:Bs ((xs.drop k).take n):=(h.bs.drop k).take n
  have hln:((xs.drop k).take n).length≤10000000:=by have:=h.len;rw [List.length_take,List.length_drop];omega
  have K2:Hid (∀ W,Scn W p ao c xs bg (k+n)→Calls Tryz.prog 100 #[.string (txt ((xs.drop k).take n)),.string ⟨#[120,109,108]⟩] W fun e w'=>e = .returned (.bool (decide (((xs.drop k).take n).map low=[120,109,108])))∧Below W.heap.size W w'):=Lib.hid fun W hW=>equalXml W _ hbn hln hW.tt
  generalize hA:txt ((xs.drop k).take n)=A at K1 K2
  have K1:=Lib.hid K1
  have HA:=Lib.hid hA
  by_cases hx:((xs.drop k).take n).map low=[120,109,108]
  ·rw [if_pos hx] at hRR
   rw [decide_eq_true hx] at K2
   have HRR:=Lib.hid hRR
   clear h hRR hi hA hx hbn hln
   go_enter Tryz.func71,Tryz.ntmps71
   go_wp2_with (first
    | (go_at_call 99;rw [←hw0];clear hw0;refine K1.out.mono ?_;rintro e w1 ⟨ht1,rfl,hs1⟩;have R1:=Lib.hid (R0.out.step ht1 hs1);clear ht1 hs1)
    | (go_at_call 100;(with_reducible refine (K2.out w1 R1.out.scn).mono ?_);rintro e w2 ⟨rfl,hb2⟩;have R2:=Lib.hid (R1.out.below hb2);clear hb2)
    | (go_at_call 97;refine (must_no 22 w2).mono ?_;rintro e w9 ⟨rfl,rfl⟩))
   refine ⟨rfl,?_⟩
   rw [HRR.out]
   exact ⟨R2.out.tch,rfl,_,R2.out.scn⟩
  rw [if_neg hx] at hRR
  rw [decide_eq_false hx] at K2
  obtain ⟨s,hs⟩:∃ s,s=sk blaP ((xs.drop k).drop n):=⟨_,rfl⟩
  rw [←hs] at hRR
  have hs':sk blaP (xs.drop (k+n))=s:=by rw [hs,List.drop_drop]
  have K3:Hid (∀ W,Scn W p ao c xs bg (k+n)→Calls Tryz.prog 101 #[.pointer (some ⟨p,0,none⟩)] W fun e w'=>e = .returned (.bool (decide (0<s)))∧Touch (fun i=>i=p) W w'∧Scn w' p ao c xs bg (k+n+s)):=Lib.hid fun W hW=>by
   have:=blanks_any W p ao c xs bg (k+n) hW
   rwa [hs'] at this
  have K4:Hid (∀ W,Scn W p ao c xs bg (k+n+s)→Calls Tryz.prog 94 #[.pointer (some ⟨p,0,none⟩),.string ⟨#[63,62]⟩] W fun e w'=>e = .returned (.bool (decide ([63,62] <+: (xs.drop (k+n+s)))))∧Below W.heap.size W w'):=Lib.hid fun W hW=>has_any W p ao c xs bg _ [63,62] (bsl _ rfl) (by simp) hW
  by_cases hc:s=0∧¬[63,62] <+: (xs.drop k).drop n
  ·rw [if_pos hc] at hRR
   obtain ⟨hs0,hc2⟩:=hc
   have hc3:¬[63,62] <+: xs.drop (k+n+s):=by rw [List.drop_drop] at hc2;rw [hs0];exact hc2
   rw [decide_eq_false hc3] at K4
   rw [show decide (0<s)=false by rw [hs0];rfl] at K3
   have HRR:=Lib.hid hRR
   clear h hRR hi hA hx hbn hln hs hs' hc2 hc3 hs0
   go_enter Tryz.func71,Tryz.ntmps71
   go_wp2_with (first
    | (go_at_call 99;rw [←hw0];clear hw0;refine K1.out.mono ?_;rintro e w1 ⟨ht1,rfl,hs1⟩;have R1:=Lib.hid (R0.out.step ht1 hs1);clear ht1 hs1)
    | (go_at_call 100;(with_reducible refine (K2.out w1 R1.out.scn).mono ?_);rintro e w2 ⟨rfl,hb2⟩;have R2:=Lib.hid (R1.out.below hb2);clear hb2)
    | (go_at_call 97;refine (must_yes 22 w2).mono ?_;rintro e w9 ⟨rfl,rfl⟩)
    | (go_at_call 101;(with_reducible refine (K3.out w2 R2.out.scn).mono ?_);rintro e w3 ⟨rfl,ht3,hs3⟩;have R3:=Lib.hid (R2.out.step ht3 hs3);clear ht3 hs3)
    | (go_at_call 94;(with_reducible refine (K4.out w3 R3.out.scn).mono ?_);rintro e w4 ⟨rfl,hb4⟩;have R4:=Lib.hid (R3.out.below hb4);clear hb4)
    | (go_at_call 97;refine (must_no 22 w4).mono ?_;rintro e w9 ⟨rfl,rfl⟩))
   refine ⟨rfl,?_⟩
   rw [HRR.out]
   exact ⟨R4.out.tch,rfl,_,R4.out.scn⟩
  rw [if_neg hc] at hRR
  have hd:(xs.drop k).drop (n+s)=xs.drop (k+n+s):=by rw [List.drop_drop,←Nat.add_assoc]
  rw [hd] at hRR
  unfold upP at hRR
  have hbool:(decide (0<s)=true)∨(decide (0<s)=false∧decide ([63,62] <+: (xs.drop (k+n+s)))=true):=by
   by_cases h0:0<s
   ·exact .inl (decide_eq_true h0)
   ·refine .inr ⟨decide_eq_false h0,decide_eq_true ?_⟩
    rcases Decidable.em ([63,62] <+: (xs.drop k).drop n) with h1 | h1
    ·rw [List.drop_drop] at h1
     rw [show s=0 by omega];exact h1
    ·exact absurd ⟨by omega,h1⟩ hc
  generalize decide ([63,62] <+: (xs.drop (k+n+s)))=z4 at K4 hbool
  generalize decide (0<s)=z3 at K3 hbool
  rcases hj:ix [63,62] (xs.drop (k+n+s)) with _ | i
  ·rw [hj] at hRR
   have HRR:Hid (RR = .error 22):=Lib.hid hRR
   have K5:Hid (∀ W,Scn W p ao c xs bg (k+n+s)→Calls Tryz.prog 73 #[.pointer (some ⟨p,0,none⟩),.string ⟨#[63,62]⟩] W fun e w'=>e=kpan 22∧Below W.heap.size W w'):=Lib.hid fun W hW=>upTo_no W p ao c xs bg _ ⟨#[63,62]⟩ [63,62] rfl (bsl _ rfl) (by simp) hj hW
   clear h hRR hi hA hx hbn hln hs hs' hc hd hj
   rcases hbool with rfl | ⟨rfl,rfl⟩
   ·go_enter Tryz.func71,Tryz.ntmps71
    go_wp2_with (first
     | (go_at_call 99;rw [←hw0];clear hw0;refine K1.out.mono ?_;rintro e w1 ⟨ht1,rfl,hs1⟩;have R1:=Lib.hid (R0.out.step ht1 hs1);clear ht1 hs1)
     | (go_at_call 100;(with_reducible refine (K2.out w1 R1.out.scn).mono ?_);rintro e w2 ⟨rfl,hb2⟩;have R2:=Lib.hid (R1.out.below hb2);clear hb2)
     | (go_at_call 97;refine (must_yes 22 w2).mono ?_;rintro e w9 ⟨rfl,rfl⟩)
     | (go_at_call 101;(with_reducible refine (K3.out w2 R2.out.scn).mono ?_);rintro e w3 ⟨rfl,ht3,hs3⟩;have R3:=Lib.hid (R2.out.step ht3 hs3);clear ht3 hs3)
     | (go_at_call 97;refine (must_yes 22 w3).mono ?_;rintro e w9 ⟨rfl,rfl⟩)
     | (go_at_call 73;(with_reducible refine (K5.out w3 R3.out.scn).mono ?_);rintro e w5 ⟨rfl,hb5⟩;have R5:=Lib.hid (R3.out.below hb5);clear hb5))
    refine ⟨rfl,?_⟩
    rw [HRR.out]
    exact ⟨R5.out.tch,rfl,_,R5.out.scn⟩
   ·go_enter Tryz.func71,Tryz.ntmps71
    go_wp2_with (first
     | (go_at_call 99;rw [←hw0];clear hw0;refine K1.out.mono ?_;rintro e w1 ⟨ht1,rfl,hs1⟩;have R1:=Lib.hid (R0.out.step ht1 hs1);clear ht1 hs1)
     | (go_at_call 100;(with_reducible refine (K2.out w1 R1.out.scn).mono ?_);rintro e w2 ⟨rfl,hb2⟩;have R2:=Lib.hid (R1.out.below hb2);clear hb2)
     | (go_at_call 97;refine (must_yes 22 w2).mono ?_;rintro e w9 ⟨rfl,rfl⟩)
     | (go_at_call 101;(with_reducible refine (K3.out w2 R2.out.scn).mono ?_);rintro e w3 ⟨rfl,ht3,hs3⟩;have R3:=Lib.hid (R2.out.step ht3 hs3);clear ht3 hs3)
     | (go_at_call 94;(with_reducible refine (K4.out w3 R3.out.scn).mono ?_);rintro e w4 ⟨rfl,hb4⟩;have R4:=Lib.hid (R3.out.below hb4);clear hb4)
     | (go_at_call 97;refine (must_yes 22 w4).mono ?_;rintro e w9 ⟨rfl,rfl⟩)
     | (go_at_call 73;(with_reducible refine (K5.out w4 R4.out.scn).mono ?_);rintro e w5 ⟨rfl,hb5⟩;have R5:=Lib.hid (R4.out.below hb5);clear hb5))
    refine ⟨rfl,?_⟩
    rw [HRR.out]
    exact ⟨R5.out.tch,rfl,_,R5.out.scn⟩
  ·rw [hj] at hRR
   simp only at hRR
   have K5:Hid (∀ W,Scn W p ao c xs bg (k+n+s)→Calls Tryz.prog 73 #[.pointer (some ⟨p,0,none⟩),.string ⟨#[63,62]⟩] W fun e w'=>e = .returned (.string (txt ((xs.drop (k+n+s)).take i)))∧Touch (fun j=>j=p) W w'∧Scn w' p ao c xs bg (k+n+s+i+[63,62].length)):=Lib.hid fun W hW=>upTo_yes W p ao c xs bg _ ⟨#[63,62]⟩ [63,62] i rfl (bsl _ rfl) (by simp) hj hW
   generalize hB:txt ((xs.drop (k+n+s)).take i)=B at K5
   have HB:=Lib.hid hB
   have HRR:=Lib.hid hRR
   clear h hRR hi hA hx hbn hln hs hs' hc hd hj hB
   rcases hbool with rfl | ⟨rfl,rfl⟩
   ·go_enter Tryz.func71,Tryz.ntmps71
    go_wp2_with (first
     | (go_at_call 99;rw [←hw0];clear hw0;refine K1.out.mono ?_;rintro e w1 ⟨ht1,rfl,hs1⟩;have R1:=Lib.hid (R0.out.step ht1 hs1);clear ht1 hs1)
     | (go_at_call 100;(with_reducible refine (K2.out w1 R1.out.scn).mono ?_);rintro e w2 ⟨rfl,hb2⟩;have R2:=Lib.hid (R1.out.below hb2);clear hb2)
     | (go_at_call 97;refine (must_yes 22 w2).mono ?_;rintro e w9 ⟨rfl,rfl⟩)
     | (go_at_call 101;(with_reducible refine (K3.out w2 R2.out.scn).mono ?_);rintro e w3 ⟨rfl,ht3,hs3⟩;have R3:=Lib.hid (R2.out.step ht3 hs3);clear ht3 hs3)
     | (go_at_call 97;refine (must_yes 22 w3).mono ?_;rintro e w9 ⟨rfl,rfl⟩)
     | (go_at_call 73;(with_reducible refine (K5.out w3 R3.out.scn).mono ?_);rintro e w5 ⟨rfl,ht5,hs5⟩;have R5:=Lib.hid (R3.out.step ht5 hs5);clear ht5 hs5;obtain ⟨r0,r1,r2,r3,r4,r5⟩:=R5.out.ce;obtain ⟨g0,g1,g2,g3,g4,g5⟩:=R5.out.fr))
    refine bodyPost_ret (res71 rfl (st6_blk R5.out.blk _ _ _ _ _ _)) rfl ?_
    rw [HRR.out,←HA.out,←HB.out]
    exact R5.out.done h7 H.out.apart ⟨2,(xs.drop k).take n,(xs.drop (k+n+s)).take i,[],false⟩ (n+s+i+2) (.slice none 0 0) (by simp;omega) (AtV.nil _ _) (by simp)
   ·go_enter Tryz.func71,Tryz.ntmps71
    go_wp2_with (first
     | (go_at_call 99;rw [←hw0];clear hw0;refine K1.out.mono ?_;rintro e w1 ⟨ht1,rfl,hs1⟩;have R1:=Lib.hid (R0.out.step ht1 hs1);clear ht1 hs1)
     | (go_at_call 100;(with_reducible refine (K2.out w1 R1.out.scn).mono ?_);rintro e w2 ⟨rfl,hb2⟩;have R2:=Lib.hid (R1.out.below hb2);clear hb2)
     | (go_at_call 97;refine (must_yes 22 w2).mono ?_;rintro e w9 ⟨rfl,rfl⟩)
     | (go_at_call 101;(with_reducible refine (K3.out w2 R2.out.scn).mono ?_);rintro e w3 ⟨rfl,ht3,hs3⟩;have R3:=Lib.hid (R2.out.step ht3 hs3);clear ht3 hs3)
     | (go_at_call 94;(with_reducible refine (K4.out w3 R3.out.scn).mono ?_);rintro e w4 ⟨rfl,hb4⟩;have R4:=Lib.hid (R3.out.below hb4);clear hb4)
     | (go_at_call 97;refine (must_yes 22 w4).mono ?_;rintro e w9 ⟨rfl,rfl⟩)
     | (go_at_call 73;(with_reducible refine (K5.out w4 R4.out.scn).mono ?_);rintro e w5 ⟨rfl,ht5,hs5⟩;have R5:=Lib.hid (R4.out.step ht5 hs5);clear ht5 hs5;obtain ⟨r0,r1,r2,r3,r4,r5⟩:=R5.out.ce;obtain ⟨g0,g1,g2,g3,g4,g5⟩:=R5.out.fr))
    refine bodyPost_ret (res71 rfl (st6_blk R5.out.blk _ _ _ _ _ _)) rfl ?_
    rw [HRR.out,←HA.out,←HB.out]
    exact R5.out.done h7 H.out.apart ⟨2,(xs.drop k).take n,(xs.drop (k+n+s)).take i,[],false⟩ (n+s+i+2) (.slice none 0 0) (by simp;omega) (AtV.nil _ _) (by simp)
end
theorem res69 {t:Array Value} {W:World} {q:Nat} {x0 x1 x2 x3 x4 x5:Value} (h2:t[2]? = some (.pointer (some ⟨q,0,none⟩))) (h:Blk W q 44 #[x0,x1,x2,x3,x4,x5]) :
  (results Tryz.f69 t).run Tryz.prog W = .ok (.agg #[x0,x1,x2,x3,x4,x5]) W:=by
 have e0:=(h.cell 0).trans (show _=some x0 from rfl)
 have e1:=(h.cell 1).trans (show _=some x1 from rfl)
 have e2:=(h.cell 2).trans (show _=some x2 from rfl)
 have e3:=(h.cell 3).trans (show _=some x3 from rfl)
 have e4:=(h.cell 4).trans (show _=some x4 from rfl)
 have e5:=(h.cell 5).trans (show _=some x5 from rfl)
 simp [results,Tryz.results69,h2,go_sem,e0,e1,e2,e3,e4,e5]
theorem told_len4:∀ (n:Nat) (L v:List Nat),L.length≤n→told L=some v→v.length≤4*L.length
 | _,[],v,_,h=>by
  rw [told_nil] at h;injection h with h;subst h;simp
 | 0,_::_,_,hn,_=>by simp at hn
 | n+1,c::t,v,hn,h=>by
  simp only [List.length_cons] at hn ⊢
  by_cases hc:c=38
  ·subst hc
   rw [told_amp] at h
   rcases hi:ix [59] t with _ | j
   ·rw [hi] at h;cases h
   ·rw [hi] at h
    simp only at h
    rcases hs:signOf (t.take j) with _ | x
    ·rw [hs] at h;cases h
    ·rw [hs] at h
     simp only at h
     rcases hr:told (t.drop (j+1)) with _ | r
     ·rw [hr] at h;cases h
     ·rw [hr] at h
      injection h with h
      subst h
      have:=told_len4 n (t.drop (j+1)) r (by rw [List.length_drop];omega) hr
      have h2:=enc_le x
      have h3:=ix_le hi
      rw [List.length_drop] at this
      rw [List.length_append]
      simp at h3
      omega
  ·rw [told_ne hc] at h
   rcases hr:told t with _ | r
   ·rw [hr] at h;cases h
   ·rw [hr] at h
    injection h with h
    subst h
    have:=told_len4 n t r (by omega) hr
    rw [List.length_cons]
    omega
theorem quP_len {q:Nat} {L:List Nat} {v:List Nat} {n:Nat} (h:quP q L = .ok (v,n)):v.length≤4*L.length:=by
 unfold quP at h
 rcases h1:upP [q] L with e | i
 ·rw [h1] at h;cases h
 ·rw [h1] at h
  simp only at h
  rcases h2:plP (L.take i) with e | x
  ·rw [h2] at h;cases h
  ·rw [h2] at h;injection h with h;injection h with h3 h4
   subst h3
   unfold plP at h2
   split at h2
   ·cases h2
   rcases h5:told (flat (L.take i)) with _ | y
   ·rw [h5] at h2;cases h2
   ·rw [h5] at h2
    injection h2 with h2
    subst h2
    have:=told_len4 _ _ _ (Nat.le_refl _) h5
    unfold flat at this
    rw [List.length_map,List.length_take] at this
    omega
theorem vlP_len {L:List Nat} {v:List Nat} {n:Nat} (h:vlP L = .ok (v,n)):v.length≤4*L.length:=by
 unfold vlP at h
 split at h
 ·generalize sk blaP L+1+sk blaP (L.drop (sk blaP L+1))=B at h
  split at h
  ·rcases h2:quP 39 (L.drop (B+1)) with e | ⟨x,m⟩
   ·rw [h2] at h;cases h
   ·rw [h2] at h;injection h with h;injection h with h3 h4
    have:=quP_len h2
    rw [List.length_drop] at this
    subst h3;omega
  ·split at h
   ·rcases h2:quP 34 (L.drop (B+1)) with e | ⟨x,m⟩
    ·rw [h2] at h;cases h
    ·rw [h2] at h;injection h with h;injection h with h3 h4
     have:=quP_len h2
     rw [List.length_drop] at this
     subst h3;omega
   ·cases h
 ·cases h
theorem onP_len {L:List Nat} {a:At} {n:Nat} (h:onP L = .ok (a,n)):a.2.length≤4*L.length:=by
 unfold onP at h
 rcases h1:qnP L with e | i
 ·rw [h1] at h;cases h
 ·rw [h1] at h
  simp only at h
  rcases h2:vlP (L.drop i) with e | ⟨x,m⟩
  ·rw [h2] at h;cases h
  ·rw [h2] at h;injection h with h;injection h with h3 h4
   have:=vlP_len h2
   rw [List.length_drop] at this
   subst h3;show x.length≤_;omega
theorem atA_len (N:Nat):∀ (n:Nat) (acc:List At) (L:List Nat) (l:List At) (m:Nat),L.length≤n→n≤N→Bs L→(∀ y∈acc,y.2.length≤4*N)→atA acc L = .ok (l,m)→∀ y∈l,y.2.length≤4*N
 | n,acc,L,l,m,hn,hN,hb,ha,h=>by
  rw [atA_step acc hb] at h
  have hsk:=sk_len blaP_zero hb
  by_cases h0:sk blaP L=0
  ·rw [if_pos h0] at h;injection h with h;injection h with h1 h2;subst h1;exact ha
  rw [if_neg h0] at h
  by_cases hp:begP (nx (L.drop (sk blaP L))).1=true
  ·rw [if_pos hp] at h
   rcases h1:onP (L.drop (sk blaP L)) with e | ⟨a,k⟩
   ·rw [h1] at h;cases h
   ·rw [h1] at h
    simp only at h
    have h2:=onP_ok (hb.drop _) h1
    have h6:=onP_len h1
    rw [List.length_drop] at h2 h6
    split at h
    ·cases h
    split at h
    ·cases h
    rcases h3:atA (acc++[a]) (L.drop (sk blaP L+k)) with e | ⟨l2,m2⟩
    ·rw [h3] at h;cases h
    ·rw [h3] at h
     injection h with h;injection h with h4 h5
     subst h4
     cases n with
     | zero=>omega
     | succ n=>
      refine atA_len N n (acc++[a]) (L.drop (sk blaP L+k)) l2 m2 (by rw [List.length_drop];omega) (by omega) (hb.drop _) (fun y hy=>?_) h3
      rcases List.mem_append.1 hy with hy | hy
      ·exact ha y hy
      ·rw [List.mem_singleton.1 hy];omega
  ·rw [if_neg hp] at h;injection h with h;injection h with h1 h2;subst h1;exact ha
theorem atP_len {L:List Nat} {l:List At} {m:Nat} (hb:Bs L) (h:atP L = .ok (l,m)):∀ y∈l,y.2.length≤4*L.length:=atA_len L.length L.length [] L l m (Nat.le_refl _) (Nat.le_refl _) hb (fun y hy=>by cases hy) h
theorem AtV.touch {S:Nat→Prop} {w w':World} {B:Nat} {sv:Value} {l:List At} (h:AtV w B sv l) (ht:Touch S w w') (hS:∀ i,S i→i<B):AtV w' B sv l:=by
 obtain ⟨a,cc,h1,h2⟩:=h
 exact ⟨a,cc,h1,ownsRow_touch h2 ht fun i hi he=>by have:=h2.lt i hi;have:=hS i he;omega⟩
theorem AtV.mono {w:World} {B B':Nat} {sv:Value} {l:List At} (h:AtV w B sv l) (hB:B'≤B):AtV w B' sv l:=by
 obtain ⟨a,cc,h1,h2⟩:=h
 exact ⟨a,cc,h1,World.ownsRow.mono h2 hB⟩
section
variable (w:World) (p:Nat) (ao:Option Addr) (c:Nat) (xs:List Nat) (bg k:Nat)
set_option maxHeartbeats 3200000 in
theorem declares_any (h:Scn w p ao c xs bg k) :
  Calls Tryz.prog 68 #[.pointer (some ⟨p,0,none⟩)] w fun e w'=>e = .returned (.bool (decide (isDc (k == 0) (xs.drop k))))∧Below w.heap.size w w':=by
 have H:=Lib.hid h
 have p2:=h.c2
 by_cases hk:k=0
 ·subst hk
  have KH:=has_any w p ao c xs bg 0 [60,63,120,109,108] (bsl _ rfl) (by simp) h
  by_cases hp:[60,63,120,109,108] <+: xs.drop 0
  ·rw [decide_eq_true hp] at KH
   have KH:=Lib.hid KH
   have hR:decide (isDc (0 == 0) (xs.drop 0))=wth blankL ((nx (xs.drop 5)).1:Nat):=by
    refine Bool.eq_iff_iff.2 ?_
    rw [decide_eq_true_iff]
    exact ⟨fun h=>h.2.2,fun h=>⟨rfl,hp,h⟩⟩
   rw [hR]
   have KN:Hid (∀ W,Scn W p ao c xs bg 0→Calls Tryz.prog 65 #[.slice ao xs.length c,.int .i64 5] W fun e w'=>e = .returned (.tuple #[.int .i32 ((nx (xs.drop 5)).1:Nat),.int .i64 ((nx (xs.drop 5)).2:Nat)])∧Below W.heap.size W w'):=Lib.hid fun W hW=>by
    have:=Next_any ao c xs (5:Nat) W hW.sl hW.tt.tu
    rw [nxF_nat] at this
    exact this
   generalize (nx (xs.drop 5)).1=v at KN ⊢
   generalize (nx (xs.drop 5)).2=m at KN
   clear h hp hR
   go_enter Tryz.func68,Tryz.ntmps68
   go_wp2_with (first
    | (go_at_call 94;refine KH.out.mono ?_;rintro e w1 ⟨rfl,hb1⟩;have HS1:=Lib.hid (H.out.below hb1);have HB1:=Lib.hid hb1;have p0:=HS1.out.c0;clear hb1)
    | (go_at_call 65;(with_reducible refine (KN.out w1 HS1.out).mono ?_);rintro e w2 ⟨rfl,hb2⟩;have HB:=Lib.hid hb2;clear hb2)
    | (go_at_call 95;refine (Blank_any (v:Nat) _).mono ?_;rintro e w3 ⟨rfl,hb3⟩;have HB3:=Lib.hid (HB.out.trans (hb3.mono HB.out.size));clear hb3))
   go_ret
   exact ⟨rfl,HB1.out.trans (HB3.out.mono HB1.out.size)⟩
  ·rw [decide_eq_false hp] at KH
   have KH:=Lib.hid KH
   have hR:decide (isDc (0 == 0) (xs.drop 0))=false:=decide_eq_false fun h=>hp h.2.1
   rw [hR]
   clear h hp hR
   go_enter Tryz.func68,Tryz.ntmps68
   go_wp2_with (go_at_call 94;refine KH.out.mono ?_;rintro e w1 ⟨rfl,hb1⟩;have HB1:=Lib.hid hb1;clear hb1)
   go_ret
   exact ⟨rfl,HB1.out⟩
 ·have hR:decide (isDc (k == 0) (xs.drop k))=false:=decide_eq_false fun h=>by
   have:=h.1
   simp at this
   exact hk this
  rw [hR]
  have hk0:(0:Int)<k:=by omega
  clear h hR hk
  go_enter Tryz.func68,Tryz.ntmps68
  go_wp2
  go_ret
  exact ⟨rfl,Below.refl _ _⟩
end
theorem MdTo.isok {w w':World} {e:Ending} (h:MdTo none w e w'):Below w.heap.size w w'∧e = .returned (.tuple #[]):=by
 refine ⟨h.1,?_⟩
 rcases h.2 with h | ⟨er,h,_⟩
 ·exact h.2
 ·cases h
theorem MdTo.isno {er:Nat} {w w':World} {e:Ending} (h:MdTo (some er) w e w'):Below w.heap.size w w'∧e=kpan er:=by
 refine ⟨h.1,?_⟩
 rcases h.2 with h | ⟨er,h,h2⟩
 ·cases h.1
 ·injection h with h;rw [h];exact h2
section
variable (w:World) (p:Nat) (ao:Option Addr) (c:Nat) (xs:List Nat) (bg k:Nat)
set_option maxHeartbeats 3200000 in
theorem declaration_any (h:Scn w p ao c xs bg k) (h5:[60,63,120,109,108] <+: xs.drop k) :
  Calls Tryz.prog 69 #[.pointer (some ⟨p,0,none⟩)] w (TkTo p ao c xs bg k (plus 5 (dcP ((xs.drop k).drop 5))) w):=by
 have hle5:=pre_le (by simp) h5
 have hlen:=h.len
 have hbs:=h.bs
 have H:=Lib.hid h
 have R0:=Lib.hid (Rd.init h)
 have h7:=h.tt.size
 rw [List.drop_drop]
 obtain ⟨RR,hRR⟩:∃ RR,RR=plus 5 (dcP (xs.drop (k+5))):=⟨_,rfl⟩
 rw [←hRR]
 have hk5:k+5≤xs.length:=by simpa using hle5
 obtain ⟨k5,hk5e⟩:∃ k5,k5=k+5:=⟨_,rfl⟩
 have hw5:IntKind.i64.wrap ((k:Int)+5)=(k5:Int):=by rw [IntKind.wrap_i64];omega
 obtain ⟨w1,hw1⟩:∃ w1,w1=(w.setCell ⟨p,2,none⟩ (.int .i64 ((k:Int)+5))).alloc (.cells #[.int .i64 0,.string ⟨#[]⟩,.string ⟨#[]⟩,.slice none 0 0,.bool false,.int .i64 0] 44):=⟨_,rfl⟩
 rw [←hk5e] at hRR hk5
 have hz:(w.setCell ⟨p,2,none⟩ (.int .i64 ((k:Int)+5))).heap.size=w.heap.size:=by simp
 have R1:Hid (Rd w w1 p ao c xs bg k5):=Lib.hid (by
  have hs:=h.set2 k5 hk5
  rw [show ((k5:Nat):Int)=(k:Int)+5 by omega] at hs
  have hb:=lit_below (w.setCell ⟨p,2,none⟩ (.int .i64 ((k:Int)+5))) (.cells #[.int .i64 0,.string ⟨#[]⟩,.string ⟨#[]⟩,.slice none 0 0,.bool false,.int .i64 0] 44)
  have hm:=Blk.made (w.setCell ⟨p,2,none⟩ (.int .i64 ((k:Int)+5))) 44 #[.int .i64 0,.string ⟨#[]⟩,.string ⟨#[]⟩,.slice none 0 0,.bool false,.int .i64 0]
  rw [hz] at hm
  rw [hw1]
  exact ⟨(touch_set p 2 w _).trans (Touch.of_below hb),hs.below hb,hm,h.lt⟩)
 have p2:(w.alloc (.cells #[.int .i64 0,.string ⟨#[]⟩,.string ⟨#[]⟩,.slice none 0 0,.bool false,.int .i64 0] 44)).cell? ⟨p,2,none⟩=some (.int .i64 (k:Nat)):=R0.out.scn.c2
 have f2:(w.alloc (.cells #[.int .i64 0,.string ⟨#[]⟩,.string ⟨#[]⟩,.slice none 0 0,.bool false,.int .i64 0] 44)).frozen? ⟨p,2,none⟩=false:=R0.out.scn.blk.free 2
 have K1:=ats_any w1 p ao c xs bg k5 R1.out.scn
 have hpl:=h.lt
 unfold dcP at hRR
 rcases hi:atP (xs.drop k5) with er | ⟨l,n⟩
 ·rw [hi] at hRR K1
  have HRR:Hid (RR = .error er):=Lib.hid hRR
  have K1:=Lib.hid K1
  clear h hRR hi h5 hle5 hk5
  go_enter Tryz.func69,Tryz.ntmps69
  go_wp2_with (first
   | (go_at_call 96;rw [←hw1];clear hw1;refine K1.out.mono ?_;rintro e w2 ⟨ht2,rfl,k2,hs2⟩;have R2:=Lib.hid (R1.out.step ht2 hs2);clear ht2 hs2))
  refine ⟨rfl,?_⟩
  rw [HRR.out]
  exact ⟨R2.out.tch,rfl,_,R2.out.scn⟩
 ·rw [hi] at hRR K1
  simp only at hRR
  have K1:=Lib.hid K1
  have hvl:∀ y∈l,y.2.length≤10000000:=fun y hy=>by
   have:=atP_len (hbs.drop k5) hi y hy
   rw [List.length_drop] at this
   omega
  have KM:Hid (∀ W B a cc,W.ownsRow B 46 2 (.slice a l.length cc) l.length (atc l)→(∀ y∈l,Bs y.1∧Bs y.2)→l.length≤256→TT W→Calls Tryz.prog 98 #[.slice a l.length cc] W (MdTo (mdP l) W)):=Lib.hid fun W B a cc h1 h2 h3 h4=>mustDeclare_any W B a cc l h1 h2 hvl h3 h4
  by_cases hp:[63,62] <+: (xs.drop k5).drop n
  ·rw [if_pos hp] at hRR
   have hp':[63,62] <+: xs.drop (k5+n):=by rw [List.drop_drop] at hp;exact hp
   have K2:Hid (∀ W,Scn W p ao c xs bg (k5+n)→Calls Tryz.prog 70 #[.pointer (some ⟨p,0,none⟩),.string ⟨#[63,62]⟩] W fun e w'=>e = .returned (.bool true)∧Touch (fun i=>i=p) W w'∧Scn w' p ao c xs bg (k5+n+[63,62].length)):=Lib.hid fun W hW=>takes_yes W p ao c xs bg _ ⟨#[63,62]⟩ [63,62] rfl (bsl _ rfl) (by simp) hp' hW
   obtain ⟨N,hN⟩:∃ N,N=l.length:=⟨_,rfl⟩
   have HN:=Lib.hid hN
   unfold AtsTo at K1
   simp only at K1
   rw [←hN] at K1 KM
   rcases hm:mdP l with _ | er
   ·rw [hm] at hRR KM
    have HRR:=Lib.hid hRR
    clear h hRR hi h5 hle5 hk5 hp hp' hvl hm hN
    go_enter Tryz.func69,Tryz.ntmps69
    go_wp2_with (first
     | (go_at_call 96;rw [←hw1];clear hw1;refine K1.out.mono ?_;rintro e w2 ⟨ht2,a,cc,rfl,hown2,hs2,hbs2,hl2⟩;have R2:=Lib.hid (R1.out.step ht2 hs2);have HO2:=Lib.hid hown2;have HBS2:=Lib.hid hbs2;clear ht2 hs2 hbs2 hown2)
     | (go_at_call 70;(with_reducible refine (K2.out w2 R2.out.scn).mono ?_);rintro e w3 ⟨rfl,ht3,hs3⟩;have R3:=Lib.hid (R2.out.step ht3 hs3);have HO3:=Lib.hid (ownsRow_touch HO2.out ht3 (fun i hi he=>by have:=HO2.out.lt i hi;have:=R1.out.tch.size;omega));clear ht3 hs3)
     | (go_at_call 97;refine (must_yes 22 w3).mono ?_;rintro e w9 ⟨rfl,rfl⟩)
     | (go_at_call 98;(with_reducible refine (KM.out w3 _ a cc HO3.out HBS2.out hl2 R3.out.scn.tt).mono ?_);intro e w4 h4;obtain ⟨hb4,rfl⟩:=h4.isok;have R4:=Lib.hid (R3.out.below hb4);have HO4:=Lib.hid (ownsRow_below HO3.out hb4);clear hb4 h4;obtain ⟨r0,r1,r2,r3,r4,r5⟩:=R4.out.ce;obtain ⟨g0,g1,g2,g3,g4,g5⟩:=R4.out.fr))
    refine bodyPost_ret (res69 rfl (st6_blk R4.out.blk _ _ _ _ _ _)) rfl ?_
    rw [HRR.out]
    refine R4.out.done h7 H.out.apart ⟨1,[],[],l,false⟩ (5+(n+2)) _ (by simp;omega) ⟨a,cc,by rw [HN.out],World.ownsRow.mono (by rw [←HN.out];exact HO4.out) (by have:=R1.out.blk.lt;omega)⟩ (by rw [←HN.out];exact hl2)
   ·rw [hm] at hRR KM
    have HRR:Hid (RR = .error er):=Lib.hid hRR
    clear h hRR hi h5 hle5 hk5 hp hp' hvl hm hN
    go_enter Tryz.func69,Tryz.ntmps69
    go_wp2_with (first
     | (go_at_call 96;rw [←hw1];clear hw1;refine K1.out.mono ?_;rintro e w2 ⟨ht2,a,cc,rfl,hown2,hs2,hbs2,hl2⟩;have R2:=Lib.hid (R1.out.step ht2 hs2);have HO2:=Lib.hid hown2;have HBS2:=Lib.hid hbs2;clear ht2 hs2 hbs2 hown2)
     | (go_at_call 70;(with_reducible refine (K2.out w2 R2.out.scn).mono ?_);rintro e w3 ⟨rfl,ht3,hs3⟩;have R3:=Lib.hid (R2.out.step ht3 hs3);have HO3:=Lib.hid (ownsRow_touch HO2.out ht3 (fun i hi he=>by have:=HO2.out.lt i hi;have:=R1.out.tch.size;omega));clear ht3 hs3)
     | (go_at_call 97;refine (must_yes 22 w3).mono ?_;rintro e w9 ⟨rfl,rfl⟩)
     | (go_at_call 98;(with_reducible refine (KM.out w3 _ a cc HO3.out HBS2.out hl2 R3.out.scn.tt).mono ?_);intro e w4 h4;obtain ⟨hb4,rfl⟩:=h4.isno;have R4:=Lib.hid (R3.out.below hb4);clear hb4 h4))
    refine ⟨rfl,?_⟩
    rw [HRR.out]
    exact ⟨R4.out.tch,rfl,_,R4.out.scn⟩
  ·rw [if_neg hp] at hRR
   have HRR:Hid (RR = .error 22):=Lib.hid hRR
   have hp':¬[63,62] <+: xs.drop (k5+n):=by rw [List.drop_drop] at hp;exact hp
   have K2:Hid (∀ W,Scn W p ao c xs bg (k5+n)→Calls Tryz.prog 70 #[.pointer (some ⟨p,0,none⟩),.string ⟨#[63,62]⟩] W fun e w'=>e = .returned (.bool false)∧Below W.heap.size W w'):=Lib.hid fun W hW=>takes_no W p ao c xs bg _ ⟨#[63,62]⟩ [63,62] rfl (bsl _ rfl) (by simp) hp' hW
   clear h hRR hi h5 hle5 hk5 hp hp' hvl
   go_enter Tryz.func69,Tryz.ntmps69
   go_wp2_with (first
    | (go_at_call 96;rw [←hw1];clear hw1;refine K1.out.mono ?_;rintro e w2 ⟨ht2,a,cc,rfl,hown2,hs2,hbs2,hl2⟩;have R2:=Lib.hid (R1.out.step ht2 hs2);have HO2:=Lib.hid hown2;have HBS2:=Lib.hid hbs2;clear ht2 hs2 hbs2 hown2)
    | (go_at_call 70;(with_reducible refine (K2.out w2 R2.out.scn).mono ?_);rintro e w3 ⟨rfl,hb3⟩;have R3:=Lib.hid (R2.out.below hb3);clear hb3)
    | (go_at_call 97;refine (must_no 22 w3).mono ?_;rintro e w9 ⟨rfl,rfl⟩))
   refine ⟨rfl,?_⟩
   rw [HRR.out]
   exact ⟨R3.out.tch,rfl,_,R3.out.scn⟩
end
theorem res75 {t:Array Value} {W:World} {q:Nat} {x0 x1 x2 x3 x4 x5:Value} (h2:t[2]? = some (.pointer (some ⟨q,0,none⟩))) (h:Blk W q 44 #[x0,x1,x2,x3,x4,x5]) :
  (results Tryz.f75 t).run Tryz.prog W = .ok (.agg #[x0,x1,x2,x3,x4,x5]) W:=by
 have e0:=(h.cell 0).trans (show _=some x0 from rfl)
 have e1:=(h.cell 1).trans (show _=some x1 from rfl)
 have e2:=(h.cell 2).trans (show _=some x2 from rfl)
 have e3:=(h.cell 3).trans (show _=some x3 from rfl)
 have e4:=(h.cell 4).trans (show _=some x4 from rfl)
 have e5:=(h.cell 5).trans (show _=some x5 from rfl)
 simp [results,Tryz.results75,h2,go_sem,e0,e1,e2,e3,e4,e5]
structure Bg (w w1 W:World) (p:Nat) (ao:Option Addr) (c:Nat) (xs:List Nat) (bg k:Nat) (cs:Array Value) (sv:Value) (l:List At):Prop where
 rd:Rd w W p ao c xs bg k
 blk:Blk W w1.heap.size 44 cs
 lt:w.heap.size<w1.heap.size
 av:AtV W (w1.heap.size+1) sv l
section
variable {w w1 W W':World} {p:Nat} {ao:Option Addr} {c:Nat} {xs:List Nat} {bg k k':Nat} {cs:Array Value} {sv:Value} {l:List At}
theorem Bg.step (h:Bg w w1 W p ao c xs bg k cs sv l) (ht:Touch (fun i=>i=p) W W') (hs:Scn W' p ao c xs bg k'):Bg w w1 W' p ao c xs bg k' cs sv l:=
 ⟨h.rd.step ht hs,h.blk.touch ht (by have:=h.lt;have:=h.rd.lt;omega),h.lt,h.av.touch ht (fun i hi=>by have:=h.lt;have:=h.rd.lt;omega)⟩
theorem Bg.below (h:Bg w w1 W p ao c xs bg k cs sv l) (hb:Below W.heap.size W W'):Bg w w1 W' p ao c xs bg k cs sv l:=h.step (Touch.of_below hb) (h.rd.scn.below hb)
theorem Bg.set (h:Bg w w1 W p ao c xs bg k cs sv l) (h0:Scn w p ao c xs bg k') (i:Nat) (u:Value):Bg w w1 (W.setCell ⟨w1.heap.size,i,none⟩ u) p ao c xs bg k (cs.setIfInBounds i u) sv l:=by
 have ht:=touch_set w1.heap.size i W u
 have h1:=h.lt
 have h2:=h.rd.lt
 have h3:=h0.tt.size
 refine ⟨⟨h.rd.tch.trans' ht fun j hj hlt=>by omega,h.rd.scn.touch ht (by omega) (fun j hj=>by omega) (fun ad e hne hS=>?_),h.rd.blk.touch ht (by omega),h2⟩,h.blk.setCell i u,h1,h.av.touch ht fun j hj=>by omega⟩
 obtain ⟨v,hv⟩:=h0.src_lt ad e hne
 have:=World.block_lt_of_cell? w _ hv
 simp only at this
 omega
end
section
variable (w:World) (p:Nat) (ao:Option Addr) (c:Nat) (xs:List Nat) (bg k:Nat)
set_option maxHeartbeats 3200000 in
theorem beginning_any (h:Scn w p ao c xs bg k) :
  Calls Tryz.prog 75 #[.pointer (some ⟨p,0,none⟩)] w (TkTo p ao c xs bg k (bgP (xs.drop k)) w):=by
 have H:=Lib.hid h
 have R0:=Lib.hid (Rd.init h)
 obtain ⟨w0,hw0⟩:∃ w0,w0=w.alloc (.cells z44 44):=⟨_,rfl⟩
 rw [←hw0] at R0
 have h7:=h.tt.size
 obtain ⟨RR,hRR⟩:∃ RR,RR=bgP (xs.drop k):=⟨_,rfl⟩
 rw [←hRR]
 unfold bgP at hRR
 have K1:=qualified_any w0 p ao c xs bg k R0.out.scn
 rcases hi:qnP (xs.drop k) with er | n
 ·rw [hi] at hRR K1
  have HRR:Hid (RR = .error er):=Lib.hid hRR
  have K1:=Lib.hid K1
  clear h hRR hi
  go_enter Tryz.func75,Tryz.ntmps75
  go_wp2_with (first
   | (go_at_call 103;rw [←hw0];clear hw0;refine K1.out.mono ?_;rintro e w1 ⟨ht1,rfl,k1,hs1⟩;have R1:=Lib.hid (R0.out.step ht1 hs1);clear ht1 hs1))
  refine ⟨rfl,?_⟩
  rw [HRR.out]
  exact ⟨R1.out.tch,rfl,_,R1.out.scn⟩
 ·rw [hi] at hRR K1
  simp only at hRR
  unfold StTo at K1
  simp only at K1
  generalize hA:txt ((xs.drop k).take n)=A at K1
  have K1:=Lib.hid K1
  have HA:=Lib.hid hA
  rw [List.drop_drop] at hRR
  have K2:Hid (∀ W,Scn W p ao c xs bg (k+n)→Calls Tryz.prog 96 #[.pointer (some ⟨p,0,none⟩)] W (AtsTo p ao c xs bg (k+n) (atP (xs.drop (k+n))) W)):=Lib.hid fun W hW=>ats_any W p ao c xs bg (k+n) hW
  rcases ha:atP (xs.drop (k+n)) with er | ⟨l,m⟩
  ·rw [ha] at hRR K2
   have HRR:Hid (RR = .error er):=Lib.hid hRR
   clear h hRR hi ha hA
   go_enter Tryz.func75,Tryz.ntmps75
   go_wp2_with (first
    | (go_at_call 103;rw [←hw0];clear hw0;refine K1.out.mono ?_;rintro e w1 ⟨ht1,rfl,hs1⟩;have R1:=Lib.hid (R0.out.step ht1 hs1);have RA:=Lib.hid (R1.out.below (lit_below w1 (.cells #[.int .i64 5,.string A,.string ⟨#[]⟩,.slice none 0 0,.bool false,.int .i64 0] 44)));clear ht1 hs1)
    | (go_at_call 96;(with_reducible refine (K2.out _ RA.out.scn).mono ?_);rintro e w2 ⟨ht2,rfl,k2,hs2⟩;have R2:=Lib.hid (RA.out.step ht2 hs2);clear ht2 hs2))
   refine ⟨rfl,?_⟩
   rw [HRR.out]
   exact ⟨R2.out.tch,rfl,_,R2.out.scn⟩
  ·rw [ha] at hRR K2
   simp only at hRR
   unfold AtsTo at K2
   simp only at K2
   have hd1:(xs.drop k).drop (n+m)=xs.drop (k+n+m):=by rw [List.drop_drop,←Nat.add_assoc]
   have hd2:(xs.drop k).drop (n+m+1)=xs.drop (k+n+m+[47].length):=by rw [List.drop_drop];congr 1;simp;omega
   rw [hd1,hd2] at hRR
   by_cases hsl:[47] <+: xs.drop (k+n+m)
   ·rw [if_pos hsl] at hRR
    have K3:Hid (∀ W,Scn W p ao c xs bg (k+n+m)→Calls Tryz.prog 70 #[.pointer (some ⟨p,0,none⟩),.string ⟨#[47]⟩] W fun e w'=>e = .returned (.bool true)∧Touch (fun i=>i=p) W w'∧Scn w' p ao c xs bg (k+n+m+[47].length)):=Lib.hid fun W hW=>takes_yes W p ao c xs bg _ ⟨#[47]⟩ [47] rfl (bsl _ rfl) (by simp) hsl hW
    by_cases hp:[62] <+: xs.drop (k+n+m+[47].length)
    ·rw [if_pos hp] at hRR
     have HRR:=Lib.hid hRR
     have K4:Hid (∀ W,Scn W p ao c xs bg (k+n+m+[47].length)→Calls Tryz.prog 70 #[.pointer (some ⟨p,0,none⟩),.string ⟨#[62]⟩] W fun e w'=>e = .returned (.bool true)∧Touch (fun i=>i=p) W w'∧Scn w' p ao c xs bg (k+n+m+[47].length+[62].length)):=Lib.hid fun W hW=>takes_yes W p ao c xs bg _ ⟨#[62]⟩ [62] rfl (bsl _ rfl) (by simp) hp hW
     clear h hRR hi ha hA hd1 hd2 hsl hp
     go_enter Tryz.func75,Tryz.ntmps75
     go_wp2_with (first
      | (go_at_call 103;rw [←hw0];clear hw0;refine K1.out.mono ?_;rintro e w1 ⟨ht1,rfl,hs1⟩;have R1:=Lib.hid (R0.out.step ht1 hs1);have RA:=Lib.hid (R1.out.below (lit_below w1 (.cells #[.int .i64 5,.string A,.string ⟨#[]⟩,.slice none 0 0,.bool false,.int .i64 0] 44)));clear ht1 hs1)
      | (go_at_call 96;(with_reducible refine (K2.out _ RA.out.scn).mono ?_);rintro e w2 ⟨ht2,a,cc,rfl,hown2,hs2,hbs2,hl2⟩;have hbl:Blk w2 w1.heap.size 44 #[.int .i64 5,.string A,.string ⟨#[]⟩,.slice none 0 0,.bool false,.int .i64 0]:=(Blk.made w1 44 #[.int .i64 5,.string A,.string ⟨#[]⟩,.slice none 0 0,.bool false,.int .i64 0]).touch ht2 (by have:=R1.out.blk.lt;have:=R1.out.lt;omega);have B2:Hid (Bg w w1 w2 p ao c xs bg (k+n+m) #[.int .i64 5,.string A,.string ⟨#[]⟩,.slice none 0 0,.bool false,.int .i64 0] (.slice a l.length cc) l):=Lib.hid ⟨RA.out.step ht2 hs2,hbl,R1.out.blk.lt,⟨a,cc,rfl,by rw [alloc_size] at hown2;exact hown2⟩⟩;have e3:=(B2.out.blk.cell 3).trans (show _=some (.slice none 0 0) from rfl);have g3:=B2.out.blk.free 3;have B3:=Lib.hid (B2.out.set H.out 3 (.slice a l.length cc));clear ht2 hs2 hbl hown2 hbs2)
      | (go_at_call 70;(with_reducible refine (K3.out _ B3.out.rd.scn).mono ?_);rintro e w3 ⟨rfl,ht3,hs3⟩;have B4:=Lib.hid (B3.out.step ht3 hs3);clear ht3 hs3;have e4:=(B4.out.blk.cell 4).trans (show _=some (.bool false) from rfl);have g4:=B4.out.blk.free 4;have B5:=Lib.hid (B4.out.set H.out 4 (.bool true)))
      | (go_at_call 70;(with_reducible refine (K4.out _ B5.out.rd.scn).mono ?_);rintro e w4 ⟨rfl,ht4,hs4⟩;have B6:=Lib.hid (B5.out.step ht4 hs4);clear ht4 hs4;have d0:=(B6.out.blk.cell 0).trans (show _=some (.int .i64 5) from rfl);have d1:=(B6.out.blk.cell 1).trans (show _=some (.string A) from rfl);have d2:=(B6.out.blk.cell 2).trans (show _=some (.string ⟨#[]⟩) from rfl);have d3:=(B6.out.blk.cell 3).trans (show _=some (.slice a l.length cc) from rfl);have d4:=(B6.out.blk.cell 4).trans (show _=some (.bool true) from rfl);have d5:=(B6.out.blk.cell 5).trans (show _=some (.int .i64 0) from rfl);obtain ⟨r0,r1,r2,r3,r4,r5⟩:=B6.out.rd.ce;obtain ⟨q0,q1,q2,q3,q4,q5⟩:=B6.out.rd.fr)
      | (go_at_call 97;refine (must_yes 22 w4).mono ?_;rintro e w9 ⟨rfl,rfl⟩))
     refine bodyPost_ret (res75 rfl (st6_blk B6.out.rd.blk _ _ _ _ _ _)) rfl ?_
     rw [HRR.out,←HA.out]
     exact B6.out.rd.done h7 H.out.apart ⟨5,(xs.drop k).take n,[],l,true⟩ (n+m+1+1) (.slice a l.length cc) (by simp;omega) (B6.out.av.mono (by have:=B6.out.lt;omega)) hl2
    ·rw [if_neg hp] at hRR
     have HRR:=Lib.hid hRR
     have K4:Hid (∀ W,Scn W p ao c xs bg (k+n+m+[47].length)→Calls Tryz.prog 70 #[.pointer (some ⟨p,0,none⟩),.string ⟨#[62]⟩] W fun e w'=>e = .returned (.bool false)∧Below W.heap.size W w'):=Lib.hid fun W hW=>takes_no W p ao c xs bg _ ⟨#[62]⟩ [62] rfl (bsl _ rfl) (by simp) hp hW
     clear h hRR hi ha hA hd1 hd2 hsl hp
     go_enter Tryz.func75,Tryz.ntmps75
     go_wp2_with (first
      | (go_at_call 103;rw [←hw0];clear hw0;refine K1.out.mono ?_;rintro e w1 ⟨ht1,rfl,hs1⟩;have R1:=Lib.hid (R0.out.step ht1 hs1);have RA:=Lib.hid (R1.out.below (lit_below w1 (.cells #[.int .i64 5,.string A,.string ⟨#[]⟩,.slice none 0 0,.bool false,.int .i64 0] 44)));clear ht1 hs1)
      | (go_at_call 96;(with_reducible refine (K2.out _ RA.out.scn).mono ?_);rintro e w2 ⟨ht2,a,cc,rfl,hown2,hs2,hbs2,hl2⟩;have hbl:Blk w2 w1.heap.size 44 #[.int .i64 5,.string A,.string ⟨#[]⟩,.slice none 0 0,.bool false,.int .i64 0]:=(Blk.made w1 44 #[.int .i64 5,.string A,.string ⟨#[]⟩,.slice none 0 0,.bool false,.int .i64 0]).touch ht2 (by have:=R1.out.blk.lt;have:=R1.out.lt;omega);have B2:Hid (Bg w w1 w2 p ao c xs bg (k+n+m) #[.int .i64 5,.string A,.string ⟨#[]⟩,.slice none 0 0,.bool false,.int .i64 0] (.slice a l.length cc) l):=Lib.hid ⟨RA.out.step ht2 hs2,hbl,R1.out.blk.lt,⟨a,cc,rfl,by rw [alloc_size] at hown2;exact hown2⟩⟩;have e3:=(B2.out.blk.cell 3).trans (show _=some (.slice none 0 0) from rfl);have g3:=B2.out.blk.free 3;have B3:=Lib.hid (B2.out.set H.out 3 (.slice a l.length cc));clear ht2 hs2 hbl hown2 hbs2)
      | (go_at_call 70;(with_reducible refine (K3.out _ B3.out.rd.scn).mono ?_);rintro e w3 ⟨rfl,ht3,hs3⟩;have B4:=Lib.hid (B3.out.step ht3 hs3);clear ht3 hs3;have e4:=(B4.out.blk.cell 4).trans (show _=some (.bool false) from rfl);have g4:=B4.out.blk.free 4;have B5:=Lib.hid (B4.out.set H.out 4 (.bool true)))
      | (go_at_call 70;(with_reducible refine (K4.out _ B5.out.rd.scn).mono ?_);rintro e w4 ⟨rfl,hb4⟩;have B6:=Lib.hid (B5.out.below hb4);clear hb4)
      | (go_at_call 97;refine (must_no 22 w4).mono ?_;rintro e w9 ⟨rfl,rfl⟩))
     refine ⟨rfl,?_⟩
     rw [HRR.out]
     exact ⟨B6.out.rd.tch,rfl,_,B6.out.rd.scn⟩
   ·rw [if_neg hsl] at hRR
    have K3:Hid (∀ W,Scn W p ao c xs bg (k+n+m)→Calls Tryz.prog 70 #[.pointer (some ⟨p,0,none⟩),.string ⟨#[47]⟩] W fun e w'=>e = .returned (.bool false)∧Below W.heap.size W w'):=Lib.hid fun W hW=>takes_no W p ao c xs bg _ ⟨#[47]⟩ [47] rfl (bsl _ rfl) (by simp) hsl hW
    by_cases hp:[62] <+: xs.drop (k+n+m)
    ·rw [if_pos hp] at hRR
     have HRR:=Lib.hid hRR
     have K4:Hid (∀ W,Scn W p ao c xs bg (k+n+m)→Calls Tryz.prog 70 #[.pointer (some ⟨p,0,none⟩),.string ⟨#[62]⟩] W fun e w'=>e = .returned (.bool true)∧Touch (fun i=>i=p) W w'∧Scn w' p ao c xs bg (k+n+m+[62].length)):=Lib.hid fun W hW=>takes_yes W p ao c xs bg _ ⟨#[62]⟩ [62] rfl (bsl _ rfl) (by simp) hp hW
     clear h hRR hi ha hA hd1 hd2 hsl hp
     go_enter Tryz.func75,Tryz.ntmps75
     go_wp2_with (first
      | (go_at_call 103;rw [←hw0];clear hw0;refine K1.out.mono ?_;rintro e w1 ⟨ht1,rfl,hs1⟩;have R1:=Lib.hid (R0.out.step ht1 hs1);have RA:=Lib.hid (R1.out.below (lit_below w1 (.cells #[.int .i64 5,.string A,.string ⟨#[]⟩,.slice none 0 0,.bool false,.int .i64 0] 44)));clear ht1 hs1)
      | (go_at_call 96;(with_reducible refine (K2.out _ RA.out.scn).mono ?_);rintro e w2 ⟨ht2,a,cc,rfl,hown2,hs2,hbs2,hl2⟩;have hbl:Blk w2 w1.heap.size 44 #[.int .i64 5,.string A,.string ⟨#[]⟩,.slice none 0 0,.bool false,.int .i64 0]:=(Blk.made w1 44 #[.int .i64 5,.string A,.string ⟨#[]⟩,.slice none 0 0,.bool false,.int .i64 0]).touch ht2 (by have:=R1.out.blk.lt;have:=R1.out.lt;omega);have B2:Hid (Bg w w1 w2 p ao c xs bg (k+n+m) #[.int .i64 5,.string A,.string ⟨#[]⟩,.slice none 0 0,.bool false,.int .i64 0] (.slice a l.length cc) l):=Lib.hid ⟨RA.out.step ht2 hs2,hbl,R1.out.blk.lt,⟨a,cc,rfl,by rw [alloc_size] at hown2;exact hown2⟩⟩;have e3:=(B2.out.blk.cell 3).trans (show _=some (.slice none 0 0) from rfl);have g3:=B2.out.blk.free 3;have B3:=Lib.hid (B2.out.set H.out 3 (.slice a l.length cc));clear ht2 hs2 hbl hown2 hbs2)
      | (go_at_call 70;(with_reducible refine (K3.out _ B3.out.rd.scn).mono ?_);rintro e w3 ⟨rfl,hb3⟩;have B4:=Lib.hid (B3.out.below hb3);clear hb3;have e4:=(B4.out.blk.cell 4).trans (show _=some (.bool false) from rfl);have g4:=B4.out.blk.free 4;have B5:=Lib.hid (B4.out.set H.out 4 (.bool false)))
      | (go_at_call 70;(with_reducible refine (K4.out _ B5.out.rd.scn).mono ?_);rintro e w4 ⟨rfl,ht4,hs4⟩;have B6:=Lib.hid (B5.out.step ht4 hs4);clear ht4 hs4;have d0:=(B6.out.blk.cell 0).trans (show _=some (.int .i64 5) from rfl);have d1:=(B6.out.blk.cell 1).trans (show _=some (.string A) from rfl);have d2:=(B6.out.blk.cell 2).trans (show _=some (.string ⟨#[]⟩) from rfl);have d3:=(B6.out.blk.cell 3).trans (show _=some (.slice a l.length cc) from rfl);have d4:=(B6.out.blk.cell 4).trans (show _=some (.bool false) from rfl);have d5:=(B6.out.blk.cell 5).trans (show _=some (.int .i64 0) from rfl);obtain ⟨r0,r1,r2,r3,r4,r5⟩:=B6.out.rd.ce;obtain ⟨q0,q1,q2,q3,q4,q5⟩:=B6.out.rd.fr)
      | (go_at_call 97;refine (must_yes 22 w4).mono ?_;rintro e w9 ⟨rfl,rfl⟩))
     refine bodyPost_ret (res75 rfl (st6_blk B6.out.rd.blk _ _ _ _ _ _)) rfl ?_
     rw [HRR.out,←HA.out]
     exact B6.out.rd.done h7 H.out.apart ⟨5,(xs.drop k).take n,[],l,false⟩ (n+m+1) (.slice a l.length cc) (by simp;omega) (B6.out.av.mono (by have:=B6.out.lt;omega)) hl2
    ·rw [if_neg hp] at hRR
     have HRR:=Lib.hid hRR
     have K4:Hid (∀ W,Scn W p ao c xs bg (k+n+m)→Calls Tryz.prog 70 #[.pointer (some ⟨p,0,none⟩),.string ⟨#[62]⟩] W fun e w'=>e = .returned (.bool false)∧Below W.heap.size W w'):=Lib.hid fun W hW=>takes_no W p ao c xs bg _ ⟨#[62]⟩ [62] rfl (bsl _ rfl) (by simp) hp hW
     clear h hRR hi ha hA hd1 hd2 hsl hp
     go_enter Tryz.func75,Tryz.ntmps75
     go_wp2_with (first
      | (go_at_call 103;rw [←hw0];clear hw0;refine K1.out.mono ?_;rintro e w1 ⟨ht1,rfl,hs1⟩;have R1:=Lib.hid (R0.out.step ht1 hs1);have RA:=Lib.hid (R1.out.below (lit_below w1 (.cells #[.int .i64 5,.string A,.string ⟨#[]⟩,.slice none 0 0,.bool false,.int .i64 0] 44)));clear ht1 hs1)
      | (go_at_call 96;(with_reducible refine (K2.out _ RA.out.scn).mono ?_);rintro e w2 ⟨ht2,a,cc,rfl,hown2,hs2,hbs2,hl2⟩;have hbl:Blk w2 w1.heap.size 44 #[.int .i64 5,.string A,.string ⟨#[]⟩,.slice none 0 0,.bool false,.int .i64 0]:=(Blk.made w1 44 #[.int .i64 5,.string A,.string ⟨#[]⟩,.slice none 0 0,.bool false,.int .i64 0]).touch ht2 (by have:=R1.out.blk.lt;have:=R1.out.lt;omega);have B2:Hid (Bg w w1 w2 p ao c xs bg (k+n+m) #[.int .i64 5,.string A,.string ⟨#[]⟩,.slice none 0 0,.bool false,.int .i64 0] (.slice a l.length cc) l):=Lib.hid ⟨RA.out.step ht2 hs2,hbl,R1.out.blk.lt,⟨a,cc,rfl,by rw [alloc_size] at hown2;exact hown2⟩⟩;have e3:=(B2.out.blk.cell 3).trans (show _=some (.slice none 0 0) from rfl);have g3:=B2.out.blk.free 3;have B3:=Lib.hid (B2.out.set H.out 3 (.slice a l.length cc));clear ht2 hs2 hbl hown2 hbs2)
      | (go_at_call 70;(with_reducible refine (K3.out _ B3.out.rd.scn).mono ?_);rintro e w3 ⟨rfl,hb3⟩;have B4:=Lib.hid (B3.out.below hb3);clear hb3;have e4:=(B4.out.blk.cell 4).trans (show _=some (.bool false) from rfl);have g4:=B4.out.blk.free 4;have B5:=Lib.hid (B4.out.set H.out 4 (.bool false)))
      | (go_at_call 70;(with_reducible refine (K4.out _ B5.out.rd.scn).mono ?_);rintro e w4 ⟨rfl,hb4⟩;have B6:=Lib.hid (B5.out.below hb4);clear hb4)
      | (go_at_call 97;refine (must_no 22 w4).mono ?_;rintro e w9 ⟨rfl,rfl⟩))
     refine ⟨rfl,?_⟩
     rw [HRR.out]
     exact ⟨B6.out.rd.tch,rfl,_,B6.out.rd.scn⟩
end
end
end Go.Proofs.YtbogfailbgbdoaaGreatDoor.K
