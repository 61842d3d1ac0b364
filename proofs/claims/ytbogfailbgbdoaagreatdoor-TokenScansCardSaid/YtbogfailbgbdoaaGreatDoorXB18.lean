/- Part 18. -/
import Derived.Test.YtbogfailbgbdoaaGreatDoorXB16
import Derived.Test.YtbogfailbgbdoaaGreatDoorXB17
set_option linter.unusedVariables false
set_option linter.unusedSimpArgs false
namespace Go.Proofs.YtbogfailbgbdoaaGreatDoor.K
set_option maxRecDepth 100000
section
open Go.RowKit Go.Proofs.YtbogfailbgbdoaaGreatDoor U
def ScTo (r:Except (Nat × Nat) (List (Tk × Nat))) (w:World) (e:Ending) (w':World):Prop:=
 Below w.heap.size w w'∧match r with
  | .error (a,er)=>e = .returned (.tuple #[.slice none 0 0,.int .i64 (a:Nat),.int .i64 (er:Nat)])
  | .ok l=>∃ a n c m,e = .returned (.tuple #[.slice a n c,.int .i64 0,.int .i64 0])∧m.map Prod.fst=l∧Tks w' w.heap.size (.slice a n c) m
theorem strip_len (s:List Nat):(stripP s).length≤s.length:=by
 unfold stripP;split
 ·rw [List.length_drop];omega
 ·exact Nat.le_refl _
theorem Tks.shape {W:World} {B:Nat} {tv:Value} {m:List Tkm} (h:Tks W B tv m):∃ a n c,tv = .slice a n c:=by
 rcases h.own.2 with ⟨e,_⟩ | ⟨g,cap,cur,e,_⟩
 ·exact ⟨_,_,_,e⟩
 ·exact ⟨_,_,_,e⟩
theorem Scn.fresh {W:World} {ao:Option Addr} {c:Nat} {L:List Nat} (h:Sl W ao c L) (hT:TT W) (hl:L.length≤1000000):Scn (W.alloc (.cells #[.slice ao L.length c,.int .i64 0,.int .i64 0] 51)) W.heap.size ao c L 0 0:=by
 have hb:=lit_below W (.cells #[.slice ao L.length c,.int .i64 0,.int .i64 0] 51)
 refine ⟨Blk.made _ _ _,h.below hb,Nat.zero_le _,hT.size,fun ad e hne he=>?_,hT.grow hb,hl⟩
 rcases h.src with h0 | ⟨b,off,e2,hc⟩
 ·exact hne h0
 ·rw [e2] at e
  have:=Option.some.inj e
  subst this
  have:=World.block_lt_of_cell? W _ (hc 0 (List.length_pos_iff.2 hne))
  simp only at this he
  omega
set_option maxHeartbeats 3200000 in
theorem scan_any (ao:Option Addr) (c:Nat) (s:List Nat) (w:World) (h:Sl w ao c s) (hm:s.length≤1000000) (hT:TT w) :
  Calls Tryz.prog 10 #[.slice ao s.length c] w (ScTo (scP s) w):=by
 have K1:=Lib.hid (Strip_any ao c s w h hm)
 have HT:=Lib.hid hT
 have hsl:=strip_len s
 unfold scP
 have K2:Hid (∀ W a c,Sl W a c (stripP s)→TT W→Calls Tryz.prog 21 #[.slice a (stripP s).length c] W fun e w'=>e = .returned (.tuple #[.int .i64 ((alA charP (stripP s)).1:Nat),.bool (alA charP (stripP s)).2])∧Below W.heap.size W w'):=Lib.hid fun W a c h1 h2=>Check_any a c (stripP s) W h1 (by omega) h2.tu
 have K3:Hid (∀ W a c,Sl W a c (stripP s)→TT W→Calls Tryz.prog 22 #[.slice a (stripP s).length c] W (SlTo (lin false (stripP s)) W)):=Lib.hid fun W a c h1 h2=>Lines_any a c (stripP s) W h1 (by omega) h2.tu
 have hll:=lin_len (stripP s)
 rcases hal:al charP (stripP s) 0 with _ | k
 ·have ha:alA charP (stripP s)=(0,true):=by unfold alA;rw [hal];rfl
  rw [ha] at K2
  generalize lin false (stripP s)=LN at K3 hll ⊢
  generalize stripP s=ST at *
  obtain ⟨RR,hRR⟩:∃ RR,RR=tsP LN:=⟨_,rfl⟩
  show Calls _ _ _ _ (ScTo (tsP LN) w)
  have K4:Hid (∀ W p a c,Scn W p a c LN 0 0→Calls Tryz.prog 23 #[.pointer (some ⟨p,0,none⟩)] W (TsTo p RR W)):=Lib.hid fun W p a c h=>by rw [hRR];exact tokens_any W p a c LN h
  rw [←hRR]
  obtain ⟨n1,hn1⟩:∃ n1,n1=ST.length:=⟨_,rfl⟩
  obtain ⟨n2,hn2⟩:∃ n2,n2=LN.length:=⟨_,rfl⟩
  have HN2:Hid (n2=LN.length):=Lib.hid hn2
  unfold SlTo at K1 K3
  rw [←hn1] at K1 K2 K3
  rw [←hn2] at K3
  have hLN:n2≤1000000:=by omega
  clear h hT hsl hal ha hRR hll hn1 hn2
  rcases hrr:RR with ⟨a,er⟩ | l
  ·rw [hrr] at K4
   clear hrr
   go_enter Tryz.func10,Tryz.ntmps10
   go_wp2_with (first
   | (go_at_call 20;(with_reducible refine K1.out.mono ?_);rintro e w1 ⟨a1,c1,rfl,hs1,hb1⟩;have S1:=Lib.hid hs1;have B1:=Lib.hid hb1;have T1:=Lib.hid (HT.out.grow hb1);clear hs1 hb1)
   | (go_at_call 21;(with_reducible refine (K2.out w1 a1 c1 S1.out T1.out).mono ?_);rintro e w2 ⟨rfl,hb2⟩;have S2:=Lib.hid (S1.out.below hb2);have B2:=Lib.hid (B1.out.trans (hb2.mono B1.out.size));have T2:=Lib.hid (T1.out.grow hb2);clear hb2)
   | (go_at_call 22;(with_reducible refine (K3.out w2 a1 c1 S2.out T2.out).mono ?_);rintro e w3 ⟨a3,c3,rfl,hs3,hb3⟩;have S3:=Lib.hid hs3;have B3:=Lib.hid (B2.out.trans (hb3.mono B2.out.size));have T3:=Lib.hid (T2.out.grow hb3);have SC:=Lib.hid (Scn.fresh hs3 T3.out (by rw [←HN2.out];exact hLN));rw [←HN2.out] at SC;clear hs3 hb3)
   | (go_at_call 23;(with_reducible refine (K4.out _ _ a3 c3 SC.out).mono ?_);rintro e w4 ⟨ht4,rfl⟩;have B4:=Lib.hid ((B3.out.trans ((lit_below w3 (.cells #[.slice a3 n2 c3,.int .i64 0,.int .i64 0] 51)).mono B3.out.size)).trans (ht4.below (by rw [alloc_size];have:=B3.out.size;omega) (fun i hi=>by have:=B3.out.size;omega)));clear ht4))
   go_ret3
   exact ⟨B4.out,rfl⟩
  ·rw [hrr] at K4
   clear hrr
   go_enter Tryz.func10,Tryz.ntmps10
   go_wp2_with (first
   | (go_at_call 20;(with_reducible refine K1.out.mono ?_);rintro e w1 ⟨a1,c1,rfl,hs1,hb1⟩;have S1:=Lib.hid hs1;have B1:=Lib.hid hb1;have T1:=Lib.hid (HT.out.grow hb1);clear hs1 hb1)
   | (go_at_call 21;(with_reducible refine (K2.out w1 a1 c1 S1.out T1.out).mono ?_);rintro e w2 ⟨rfl,hb2⟩;have S2:=Lib.hid (S1.out.below hb2);have B2:=Lib.hid (B1.out.trans (hb2.mono B1.out.size));have T2:=Lib.hid (T1.out.grow hb2);clear hb2)
   | (go_at_call 22;(with_reducible refine (K3.out w2 a1 c1 S2.out T2.out).mono ?_);rintro e w3 ⟨a3,c3,rfl,hs3,hb3⟩;have S3:=Lib.hid hs3;have B3:=Lib.hid (B2.out.trans (hb3.mono B2.out.size));have T3:=Lib.hid (T2.out.grow hb3);have SC:=Lib.hid (Scn.fresh hs3 T3.out (by rw [←HN2.out];exact hLN));rw [←HN2.out] at SC;clear hs3 hb3)
   | (go_at_call 23;(with_reducible refine (K4.out _ _ a3 c3 SC.out).mono ?_);rintro e w4 ⟨ht4,tv,m,rfl,hml,htk⟩;obtain ⟨a,n,c,rfl⟩:=htk.shape;have TK4:=Lib.hid (htk.mono (B':=w.heap.size) (by rw [alloc_size];have:=B3.out.size;omega));have ML:=Lib.hid hml;have B4:=Lib.hid ((B3.out.trans ((lit_below w3 (.cells #[.slice a3 n2 c3,.int .i64 0,.int .i64 0] 51)).mono B3.out.size)).trans (ht4.below (by rw [alloc_size];have:=B3.out.size;omega) (fun i hi=>by have:=B3.out.size;omega)));clear ht4 htk hml))
   go_ret3
   exact ⟨B4.out,a,n,c,m,rfl,ML.out,TK4.out⟩
 ·have ha:alA charP (stripP s)=(k,false):=by unfold alA;rw [hal];rfl
  rw [ha] at K2
  generalize stripP s=ST at *
  obtain ⟨n1,hn1⟩:∃ n1,n1=ST.length:=⟨_,rfl⟩
  unfold SlTo at K1
  rw [←hn1] at K1 K2
  clear h hT hsl hal ha K3 hll hn1
  go_enter Tryz.func10,Tryz.ntmps10
  go_wp2_with (first
   | (go_at_call 20;(with_reducible refine K1.out.mono ?_);rintro e w1 ⟨a1,c1,rfl,hs1,hb1⟩;have S1:=Lib.hid hs1;have B1:=Lib.hid hb1;have T1:=Lib.hid (HT.out.grow hb1);clear hs1 hb1)
   | (go_at_call 21;(with_reducible refine (K2.out w1 a1 c1 S1.out T1.out).mono ?_);rintro e w2 ⟨rfl,hb2⟩;have B2:=Lib.hid (B1.out.trans (hb2.mono B1.out.size));clear hb2))
  go_ret3
  exact ⟨B2.out,rfl⟩
theorem tkcs_len (m:List Tkm):(tkcs m).length=m.length*6:=by
 induction m with
 | nil=>rfl
 | cons x r ih=>
  have:tkcs (x::r)=tkv x++tkcs r:=by simp [tkcs]
  rw [this,List.length_append,ih,List.length_cons]
  have:(tkv x).length=6:=rfl
  omega
theorem tkcs_at:∀ (m:List Tkm) (i j:Nat) (x:Tkm),m[i]? = some x→j<6→(tkcs m)[i*6+j]? = (tkv x)[j]?
 | [],i,j,x,h,_=>by simp at h
 | y::r,0,j,x,h,hj=>by
  have e:y=x:=by simpa using h
  have:tkcs (y::r)=tkv y++tkcs r:=by simp [tkcs]
  rw [this,List.getElem?_append_left (by show 0*6+j<6;omega),e,Nat.zero_mul,Nat.zero_add]
 | y::r,i+1,j,x,h,hj=>by
  have:tkcs (y::r)=tkv y++tkcs r:=by simp [tkcs]
  have h6:(tkv y).length=6:=rfl
  rw [this,List.getElem?_append_right (by omega),h6,show (i+1)*6+j-6=i*6+j by omega]
  exact tkcs_at r i j x (by simpa using h) hj
structure Tk6 (W:World) (g i:Nat) (x:Tkm):Prop where
 k:W.cell? ⟨g,i*6,none⟩=some (.int .i64 (x.1.1.k:Nat))
 n:W.cell? ⟨g,i*6+1,none⟩=some (.string (txt x.1.1.n))
 t:W.cell? ⟨g,i*6+2,none⟩=some (.string (txt x.1.1.t))
 a:W.cell? ⟨g,i*6+3,none⟩=some x.2
 e:W.cell? ⟨g,i*6+4,none⟩=some (.bool x.1.1.e)
 p:W.cell? ⟨g,i*6+5,none⟩=some (.int .i64 (x.1.2:Nat))
theorem Tks.at {W:World} {B:Nat} {a:Option Addr} {n c:Nat} {m:List Tkm} (h:Tks W B (.slice a n c) m):n=m.length∧(m≠[]→∃ g,a=some ⟨g,0,none⟩∧B≤g∧∀ i x,m[i]? = some x→Tk6 W g i x):=by
 rcases h.own.2 with ⟨e,h0⟩ | ⟨g,cap,cur,e,hg,_⟩
 ·injection e with _ e2 _
  refine ⟨by omega,fun hm=>?_⟩
  have:=List.length_pos_iff.2 hm
  omega
 ·injection e with e1 e2 e3
  refine ⟨e2,fun _=>⟨g,e1,hg,fun i x hx=>?_⟩⟩
  have hc:=h.own.cells (g:=g) (by rw [e1];rfl)
  have key:∀ j u,j<6→(tkv x)[j]? = some u→W.cell? ⟨g,i*6+j,none⟩=some u:=fun j u hj hu=>by
   have:=hc (i*6+j) u (by rw [tkcs_at m i j x hx hj];exact hu)
   rwa [Addr.add_lit,Nat.zero_add] at this
  exact ⟨key 0 _ (by decide) rfl,key 1 _ (by decide) rfl,key 2 _ (by decide) rfl,key 3 _ (by decide) rfl,key 4 _ (by decide) rfl,key 5 _ (by decide) rfl⟩
theorem atc_two:∀ (l:List At) (i:Nat) (x:At),l[i]? = some x→(atc l)[i*2]? = some (.string (txt x.1))∧(atc l)[i*2+1]? = some (.string (txt x.2))
 | [],i,x,h=>by simp at h
 | y::r,0,x,h=>by
  have e:y=x:=by simpa using h
  have:atc (y::r)=atV y++atc r:=by simp [atc]
  rw [this,e]
  exact ⟨rfl,rfl⟩
 | y::r,i+1,x,h=>by
  have:atc (y::r)=atV y++atc r:=by simp [atc]
  have h6:(atV y).length=2:=rfl
  rw [this,List.getElem?_append_right (by omega),List.getElem?_append_right (by omega),h6,show (i+1)*2-2=i*2 by omega,show (i+1)*2+1-2=i*2+1 by omega]
  exact atc_two r i x (by simpa using h)
theorem AtV.at {W:World} {B:Nat} {v:Value} {l:List At} (h:AtV W B v l):∃ a cc,v = .slice a l.length cc∧(l≠[]→∃ g,a=some ⟨g,0,none⟩∧B≤g∧∀ i x,l[i]? = some x→W.cell? ⟨g,i*2,none⟩=some (.string (txt x.1))∧W.cell? ⟨g,i*2+1,none⟩=some (.string (txt x.2))):=by
 obtain ⟨a,cc,rfl,ho⟩:=h
 refine ⟨a,cc,rfl,fun hl=>?_⟩
 rcases ho.2 with ⟨e,h0⟩ | ⟨g,cap,cur,e,hg,_⟩
 ·have:=List.length_pos_iff.2 hl
  omega
 ·injection e with e1 e2 e3
  refine ⟨g,e1,hg,fun i x hx=>?_⟩
  have hc:=ho.cells (g:=g) (by rw [e1];rfl)
  obtain ⟨h1,h2⟩:=atc_two l i x hx
  have k1:=hc _ _ h1
  have k2:=hc _ _ h2
  rw [Addr.add_lit,Nat.zero_add] at k1 k2
  exact ⟨k1,k2⟩
theorem scan_lit (l:List Nat) (C:Array Value) (n:Nat) (hC:C=(u8s l).toArray) (hn:l.length=n) (hb:Bs l) (hl:n≤1000) (W:World) (hT:TT W) :
  Calls Tryz.prog 10 #[.slice (some ⟨W.heap.size,0,none⟩) n n] (W.alloc (.cells C 5 (n,n+1))) fun e w'=>ScTo (scP l) W e w':=by
 subst hC;subst hn
 have hbw:=lit_below W (.cells (u8s l).toArray 5 (l.length,l.length+1))
 have hs:Sl (W.alloc (.cells (u8s l).toArray 5 (l.length,l.length+1))) (some ⟨W.heap.size,0,none⟩) l.length l:=sl_text W l _ l.length _ _ rfl rfl rfl hb hl
 refine (scan_any _ _ l _ hs (by omega) (hT.grow hbw)).mono ?_
 rintro e w' ⟨h1,h2⟩
 refine ⟨hbw.trans (h1.mono (by rw [alloc_size];omega)),?_⟩
 rcases hr:scP l with ⟨a,er⟩ | x
 ·rw [hr] at h2;exact h2
 ·rw [hr] at h2
  obtain ⟨a,n,c,m,e1,e2,e3⟩:=h2
  exact ⟨a,n,c,m,e1,e2,e3.mono (by rw [alloc_size];omega)⟩
def src1:List Nat:=[60,63,120,109,108,32,118,101,114,115,105,111,110,61,39,49,46,48,39,63,62,60,97,32,98,61,34,49,38,97,109,112,59,50,34,62,120,38,35,54,53,59,60,47,97,62,60,33,45,45,32,114,32,45,45,62]
def src2:List Nat:=[60,97,62,60,47,97,32,98,62]
def src3:List Nat:=[60,33,68,79,67,84,89,80,69,32,97,62]
def tks1:List (Tk × Nat):=[(⟨1,[],[],[([118,101,114,115,105,111,110],[49,46,48])],false⟩,0),(⟨5,[97],[],[([98],[49,38,50])],false⟩,21),(⟨4,[],[120,65],[],false⟩,36),(⟨6,[97],[],[],false⟩,42),(⟨3,[],[32,114,32],[],false⟩,46)]
theorem scP1:scP src1 = .ok tks1:=by kernel_rfl
theorem scP2:scP src2 = .error (3,22):=by kernel_rfl
theorem scP3:scP src3 = .error (0,17):=by kernel_rfl
theorem esA1:esA true [97,60,34] = .tuple #[.string ⟨#[97,38,108,116,59,38,113,117,111,116,59]⟩,.bool true]:=by kernel_rfl
theorem txP1:txP [97,38,108,116,59,38,113,117,111,116,59]=some [97,60,34]:=by kernel_rfl
theorem m5 {m:List Tkm} (h:m.map Prod.fst=tks1):∃ v0 v1 v2 v3 v4,m=[((⟨1,[],[],[([118,101,114,115,105,111,110],[49,46,48])],false⟩,0),v0),((⟨5,[97],[],[([98],[49,38,50])],false⟩,21),v1),((⟨4,[],[120,65],[],false⟩,36),v2),((⟨6,[97],[],[],false⟩,42),v3),((⟨3,[],[32,114,32],[],false⟩,46),v4)]:=by
 unfold tks1 at h
 match m,h with
 | [(_,v0),(_,v1),(_,v2),(_,v3),(_,v4)],h=>
  simp only [List.map_cons,List.map_nil,List.cons.injEq,and_true] at h
  obtain ⟨rfl,rfl,rfl,rfl,rfl⟩:=h
  exact ⟨v0,v1,v2,v3,v4,rfl⟩
set_option maxHeartbeats 6400000 in
theorem alive_any (w:World) (hT:TT w):Calls Tryz.prog 8 #[] w fun e w'=>e = .returned (.bool true)∧Below w.heap.size w w':=by
 have hc:=fun (w:World) (C:Array Value) (n c:Nat)=>Lib.run_convert_bytes_const (P:=Tryz.prog) w 22 5 C n c Tryz.underlying22 Tryz.underlying5
 have HT:=Lib.hid fun (W:World) (hW:Below w.heap.size w W)=>hT.grow hW
 have K1:=Lib.hid (scan_lit src1 _ 56 rfl rfl (bs_l _ (by decide)) (by decide) w hT)
 rw [scP1] at K1
 have K2:=Lib.hid fun (W:World) (hW:TT W)=>scan_lit src2 _ 9 rfl rfl (bs_l _ (by decide)) (by decide) W hW
 rw [scP2] at K2
 have K3:=Lib.hid fun (W:World) (hW:TT W)=>scan_lit src3 _ 12 rfl rfl (bs_l _ (by decide)) (by decide) W hW
 rw [scP3] at K3
 have K4:=Lib.hid fun (W:World) (hW:TT W)=>escape_any [97,60,34] ⟨#[97,60,34]⟩ rfl (bs_l _ (by decide)) true W (by decide) hW
 rw [esA1] at K4
 have K5:=Lib.hid fun (W:World) (hW:TT W)=>text_any [97,38,108,116,59,38,113,117,111,116,59] ⟨#[97,38,108,116,59,38,113,117,111,116,59]⟩ rfl (bs_l _ (by decide)) W (by decide) hW
 rw [txP1,show tdR (some [97,60,34]) = .tuple #[.string ⟨#[97,60,34]⟩,.bool true] from rfl] at K5
 clear hT
 go_enter Tryz.func8,Tryz.ntmps8
 go_upto_region 6 with (first
  | (go_at_call 10;(refine K1.out.mono ?_);rintro e w1 ⟨hb1,a,n,c,m,rfl,hm1,ht1⟩;have HB1:=Lib.hid hb1;have HM1:=Lib.hid hm1;have HK1:=Lib.hid ht1;clear hb1 hm1 ht1 K1)
  | (go_at_call 10;(refine (K2.out w1 (HT.out w1 HB1.out)).mono ?_);rintro e w2 ⟨hb2,rfl⟩;have HC2:=Lib.hid hb2;have HB2:=Lib.hid (HB1.out.trans (hb2.mono HB1.out.size));clear hb2 K2)
  | (go_at_call 10;(refine (K3.out w2 (HT.out w2 HB2.out)).mono ?_);rintro e w3 ⟨hb3,rfl⟩;have HC3:=Lib.hid (HC2.out.trans (hb3.mono HC2.out.size));have HB3:=Lib.hid (HB2.out.trans (hb3.mono HB2.out.size));clear hb3 K3)
  | (go_at_call 18;(refine (K4.out w3 (HT.out w3 HB3.out)).mono ?_);rintro e w4 ⟨rfl,hb4⟩;have HC4:=Lib.hid (HC3.out.trans (hb4.mono HC3.out.size));have HB4:=Lib.hid (HB3.out.trans (hb4.mono HB3.out.size));clear hb4 K4)
  | (go_at_call 14;(refine (K5.out w4 (HT.out w4 HB4.out)).mono ?_);rintro e w5 ⟨rfl,hb5⟩;have HC5:=Lib.hid (HC4.out.trans (hb5.mono HC4.out.size));have HB5:=Lib.hid (HB4.out.trans (hb5.mono HB4.out.size));clear hb5 K5))
 obtain ⟨v0,v1,v2,v3,v4,hm⟩:=m5 HM1.out
 have hk:=HK1.out.touch (W':=w5) (Touch.of_below (S:=fun _=>False) HC5.out) (fun _ h=>h.elim)
 rw [hm] at hk
 clear HM1 HK1 hm
 obtain ⟨hn,hk2⟩:=hk.at
 obtain ⟨g,hg,hgB,h6⟩:=hk2 (by simp)
 have av:=(hk.av _ (List.mem_cons_of_mem _ (List.mem_cons_self ..))).1
 obtain ⟨a1,cc1,hv1,h1⟩:=av.at
 obtain ⟨g1,hg1,hg1B,h2⟩:=h1 (by simp)
 have x0:=h6 0 _ rfl
 have x1:=h6 1 _ rfl
 have x2:=h6 2 _ rfl
 have x3:=h6 3 _ rfl
 have x4:=h6 4 _ rfl
 have y0:=(h2 0 _ rfl).1
 have y1:=(h2 0 _ rfl).2
 have c0:=x0.k
 have c9:=x1.a
 have c14:=x2.t
 have c18:=x3.k
 have c26:=x4.t
 simp only [List.length_cons,List.length_nil,Nat.reduceAdd,Nat.reduceMul,Nat.zero_mul,Nat.zero_add ] at c0 c9 c14 c18 c26 y0 y1 hn hv1
 replace c14:w5.cell? ⟨g,14,none⟩=some (.string ⟨#[120,65]⟩):=c14
 replace c26:w5.cell? ⟨g,26,none⟩=some (.string ⟨#[32,114,32]⟩):=c26
 replace y0:w5.cell? ⟨g1,0,none⟩=some (.string ⟨#[98]⟩):=y0
 replace y1:w5.cell? ⟨g1,1,none⟩=some (.string ⟨#[49,38,50]⟩):=y1
 replace c0:w5.cell? ⟨g,0,none⟩=some (.int .i64 1):=c0
 replace c18:w5.cell? ⟨g,18,none⟩=some (.int .i64 6):=c18
 subst hn hg hv1 hg1
 clear x0 x1 x2 x3 x4 h6 h2 h1 hk2 hk HC2 HC3 HC4 HC5 HB1 HB2 HB3 HB4 HT hgB hg1B
 go_wp2
 go_ret
 exact ⟨rfl,HB5.out⟩
end
end Go.Proofs.YtbogfailbgbdoaaGreatDoor.K
