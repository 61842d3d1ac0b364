/- Part 13. -/
import Derived.ChangeMaps5
import Derived.ChangeOld
import Derived.Deep.Slices
import Derived.HandedShaped
import Derived.LaidMore
import Derived.Lay
import Derived.Lib.LaidTab
import Derived.Lib.SmallJoins
import Derived.OpenShut
import Derived.ProofKit
import Derived.SevenTiedAt
import Derived.Shelf.Vars
import Derived.ShutString
import Derived.SizedLaws
import Derived.Stop.Joined
import Derived.Stop.LaidErr
import Derived.Test.YtbogfailbgbdoaaGreatDoorCards
import Derived.Test.YtbogfailbgbdoaaGreatDoorTie
import Derived.Test.YtbogfailbgbdoaaGreatDoorXA8
import Derived.Test.YtbogfailbgbdoaaGreatDoorXA12
set_option linter.unusedVariables false
set_option linter.unusedSimpArgs false
namespace Go.Proofs.YtbogfailbgbdoaaGreatDoor.K
set_option maxRecDepth 100000
section
open Go.RowKit Go.Proofs.YtbogfailbgbdoaaGreatDoor U
def ScTo (r:Except (Nat × Nat) (List (Tk × Nat))) (w:World) (e:Ending) (w':World):Prop:=
 Below w.heap.size w w'∧match r with
  | .error (a,er)=>e = .returned (.tuple #[.slice none 0 0,.int .i64 (a:Nat),.int .i64 (er:Nat)])
  | .ok l=>∃ a n c m,e = .returned (.tuple #[.slice a n c,.int .i64 0,.int .i64 0])∧m.map Prod.fst=l∧Tks w' w.heap.size (.slice a n c) m
theorem strip_len (s:List Nat):(stripP s).length≤s.length:=by
 unfold stripP;split
 ·rw [List.length_drop];omega
 ·exact Nat.le_refl _
theorem Tks.shape {W:World} {B:Nat} {tv:Value} {m:List Tkm} (h:Tks W B tv m):∃ a n c,tv = .slice a n c:=by
 rcases h.own.2 with ⟨e,_⟩ | ⟨g,cap,cur,e,_⟩
 ·exact ⟨_,_,_,e⟩
 ·exact ⟨_,_,_,e⟩
theorem Scn.fresh {W:World} {ao:Option Addr} {c:Nat} {L:List Nat} (h:Sl W ao c L) (hT:TT W) (hl:L.length≤1000000):Scn (W.alloc (.cells #[.slice ao L.length c,.int .i64 0,.int .i64 0] 51)) W.heap.size ao c L 0 0:=by
 have hb:=lit_below W (.cells #[.slice ao L.length c,.int .i64 0,.int .i64 0] 51)
 refine ⟨Blk.made _ _ _,h.below hb,Nat.zero_le _,hT.size,fun ad e hne he=>?_,hT.grow hb,hl⟩
 rcases h.src with h0 | ⟨b,off,e2,hc⟩
 ·exact hne h0
 ·rw [e2] at e
  have:=Option.some.inj e
  subst this
  have:=World.block_lt_of_cell? W _ (hc 0 (List.length_pos_iff.2 hne))
  simp only at this he
  omega
set_option maxHeartbeats 3200000 in
theorem scan_any (ao:Option Addr) (c:Nat) (s:List Nat) (w:World) (h:Sl w ao c s) (hm:s.length≤1000000) (hT:TT w) :
  Calls Tryz.prog 10 #[.slice ao s.length c] w (ScTo (scP s) w):=by
 have K1:=Lib.hid (Strip_any ao c s w h hm)
 have HT:=Lib.hid hT
 have hsl:=strip_len s
 unfold scP
 have K2:Hid (∀ W a c,Sl W a c (stripP s)→TT W→Calls Tryz.prog 21 #[.slice a (stripP s).length c] W fun e w'=>e = .returned (.tuple #[.int .i64 ((alA charP (stripP s)).1:Nat),.bool (alA charP (stripP s)).2])∧Below W.heap.size W w'):=Lib.hid fun W a c h1 h2=>Check_any a c (stripP s) W h1 (by omega) h2.tu
 have K3:Hid (∀ W a c,Sl W a c (stripP s)→TT W→Calls Tryz.prog 22 #[.slice a (stripP s).length c] W (SlTo (lin false (stripP s)) W)):=Lib.hid fun W a c h1 h2=>Lines_any a c (stripP s) W h1 (by omega) h2.tu
 have hll:=lin_len (stripP s)
 rcases hal:al charP (stripP s) 0 with _ | k
 ·have ha:alA charP (stripP s)=(0,true):=by unfold alA;rw [hal];rfl
  rw [ha] at K2
  generalize lin false (stripP s)=LN at K3 hll ⊢
  generalize stripP s=ST at *
  obtain ⟨RR,hRR⟩:∃ RR,RR=tsP LN:=⟨_,rfl⟩
  show Calls _ _ _ _ (ScTo (tsP LN) w)
  have K4:Hid (∀ W p a c,Scn W p a c LN 0 0→Calls Tryz.prog 23 #[.pointer (some ⟨p,0,none⟩)] W (TsTo p RR W)):=Lib.hid fun W p a c h=>by rw [hRR];exact tokens_any W p a c LN h
  rw [←hRR]
  obtain ⟨n1,hn1⟩:∃ n1,n1=ST.length:=⟨_,rfl⟩
  obtain ⟨n2,hn2⟩:∃ n2,n2=LN.length:=⟨_,rfl⟩
  have HN2:Hid (n2=LN.length):=Lib.hid hn2
  unfold SlTo at K1 K3
  rw [←hn1] at K1 K2 K3
  rw [←hn2] at K3
  have hLN:n2≤1000000:=by omega
  clear h hT hsl hal ha hRR hll hn1 hn2
  rcases hrr:RR with ⟨a,er⟩ | l
  ·rw [hrr] at K4
   clear hrr
   go_enter Tryz.func10,Tryz.ntmps10
   go_wp2_with (first
   | (go_at_call 20;(with_reducible refine K1.out.mono ?_);rintro e w1 ⟨a1,c1,rfl,hs1,hb1⟩;have S1:=Lib.hid hs1;have B1:=Lib.hid hb1;have T1:=Lib.hid (HT.out.grow hb1);clear hs1 hb1)
   | (go_at_call 21;(with_reducible refine (K2.out w1 a1 c1 S1.out T1.out).mono ?_);rintro e w2 ⟨rfl,hb2⟩;have S2:=Lib.hid (S1.out.below hb2);have B2:=Lib.hid (B1.out.trans (hb2.mono B1.out.size));have T2:=Lib.hid (T1.out.grow hb2);clear hb2)
   | (go_at_call 22;(with_reducible refine (K3.out w2 a1 c1 S2.out T2.out).mono ?_);rintro e w3 ⟨a3,c3,rfl,hs3,hb3⟩;have S3:=Lib.hid hs3;have B3:=Lib.hid (B2.out.trans (hb3.mono B2.out.size));have T3:=Lib.hid (T2.out.grow hb3);have SC:=Lib.hid (Scn.fresh hs3 T3.out (by rw [←HN2.out];exact hLN));rw [←HN2.out] at SC;clear hs3 hb3)
   | (go_at_call 23;(with_reducible refine (K4.out _ _ a3 c3 SC.out).mono ?_);rintro e w4 ⟨ht4,rfl⟩;have B4:=Lib.hid ((B3.out.trans ((lit_below w3 (.cells #[.slice a3 n2 c3,.int .i64 0,.int .i64 0] 51)).mono B3.out.size)).trans (ht4.below (by rw [alloc_size];have:=B3.out.size;omega) (fun i hi=>by have:=B3.out.size;omega)));clear ht4))
   go_ret3
   exact ⟨B4.out,rfl⟩
  ·rw [hrr] at K4
   clear hrr
   go_enter Tryz.func10,Tryz.ntmps10
   go_wp2_with (first
   | (go_at_call 20;(with_reducible refine K1.out.mono ?_);rintro e w1 ⟨a1,c1,rfl,hs1,hb1⟩;have S1:=Lib.hid hs1;have B1:=Lib.hid hb1;have T1:=Lib.hid (HT.out.grow hb1);clear hs1 hb1)
   | (go_at_call 21;(with_reducible refine (K2.out w1 a1 c1 S1.out T1.out).mono ?_);rintro e w2 ⟨rfl,hb2⟩;have S2:=Lib.hid (S1.out.below hb2);have B2:=Lib.hid (B1.out.trans (hb2.mono B1.out.size));have T2:=Lib.hid (T1.out.grow hb2);clear hb2)
   | (go_at_call 22;(with_reducible refine (K3.out w2 a1 c1 S2.out T2.out).mono ?_);rintro e w3 ⟨a3,c3,rfl,hs3,hb3⟩;have S3:=Lib.hid hs3;have B3:=Lib.hid (B2.out.trans (hb3.mono B2.out.size));have T3:=Lib.hid (T2.out.grow hb3);have SC:=Lib.hid (Scn.fresh hs3 T3.out (by rw [←HN2.out];exact hLN));rw [←HN2.out] at SC;clear hs3 hb3)
   | (go_at_call 23;(with_reducible refine (K4.out _ _ a3 c3 SC.out).mono ?_);rintro e w4 ⟨ht4,tv,m,rfl,hml,htk⟩;obtain ⟨a,n,c,rfl⟩:=htk.shape;have TK4:=Lib.hid (htk.mono (B':=w.heap.size) (by rw [alloc_size];have:=B3.out.size;omega));have ML:=Lib.hid hml;have B4:=Lib.hid ((B3.out.trans ((lit_below w3 (.cells #[.slice a3 n2 c3,.int .i64 0,.int .i64 0] 51)).mono B3.out.size)).trans (ht4.below (by rw [alloc_size];have:=B3.out.size;omega) (fun i hi=>by have:=B3.out.size;omega)));clear ht4 htk hml))
   go_ret3
   exact ⟨B4.out,a,n,c,m,rfl,ML.out,TK4.out⟩
 ·have ha:alA charP (stripP s)=(k,false):=by unfold alA;rw [hal];rfl
  rw [ha] at K2
  generalize stripP s=ST at *
  obtain ⟨n1,hn1⟩:∃ n1,n1=ST.length:=⟨_,rfl⟩
  unfold SlTo at K1
  rw [←hn1] at K1 K2
  clear h hT hsl hal ha K3 hll hn1
  go_enter Tryz.func10,Tryz.ntmps10
  go_wp2_with (first
   | (go_at_call 20;(with_reducible refine K1.out.mono ?_);rintro e w1 ⟨a1,c1,rfl,hs1,hb1⟩;have S1:=Lib.hid hs1;have B1:=Lib.hid hb1;have T1:=Lib.hid (HT.out.grow hb1);clear hs1 hb1)
   | (go_at_call 21;(with_reducible refine (K2.out w1 a1 c1 S1.out T1.out).mono ?_);rintro e w2 ⟨rfl,hb2⟩;have B2:=Lib.hid (B1.out.trans (hb2.mono B1.out.size));clear hb2))
  go_ret3
  exact ⟨B2.out,rfl⟩
theorem tkcs_len (m:List Tkm):(tkcs m).length=m.length*6:=by
 induction m with
 | nil=>rfl
 | cons x r ih=>
  have:tkcs (x::r)=tkv x++tkcs r:=by simp [tkcs]
  rw [this,List.length_append,ih,List.length_cons]
  have:(tkv x).length=6:=rfl
  omega
theorem tkcs_at:∀ (m:List Tkm) (i j:Nat) (x:Tkm),m[i]? = some x→j<6→(tkcs m)[i*6+j]? = (tkv x)[j]?
 | [],i,j,x,h,_=>by simp at h
 | y::r,0,j,x,h,hj=>by
  have e:y=x:=by simpa using h
  have:tkcs (y::r)=tkv y++tkcs r:=by simp [tkcs]
  rw [this,List.getElem?_append_left (by show 0*6+j<6;omega),e,Nat.zero_mul,Nat.zero_add]
 | y::r,i+1,j,x,h,hj=>by
  have:tkcs (y::r)=tkv y++tkcs r:=by simp [tkcs]
  have h6:(tkv y).length=6:=rfl
  rw [this,List.getElem?_append_right (by omega),h6,show (i+1)*6+j-6=i*6+j by omega]
  exact tkcs_at r i j x (by simpa using h) hj
structure Tk6 (W:World) (g i:Nat) (x:Tkm):Prop where
 k:W.cell? ⟨g,i*6,none⟩=some (.int .i64 (x.1.1.k:Nat))
 n:W.cell? ⟨g,i*6+1,none⟩=some (.string (txt x.1.1.n))
 t:W.cell? ⟨g,i*6+2,none⟩=some (.string (txt x.1.1.t))
 a:W.cell? ⟨g,i*6+3,none⟩=some x.2
 e:W.cell? ⟨g,i*6+4,none⟩=some (.bool x.1.1.e)
 p:W.cell? ⟨g,i*6+5,none⟩=some (.int .i64 (x.1.2:Nat))
theorem Tks.at {W:World} {B:Nat} {a:Option Addr} {n c:Nat} {m:List Tkm} (h:Tks W B (.slice a n c) m):n=m.length∧(m≠[]→∃ g,a=some ⟨g,0,none⟩∧B≤g∧∀ i x,m[i]? = some x→Tk6 W g i x):=by
 rcases h.own.2 with ⟨e,h0⟩ | ⟨g,cap,cur,e,hg,_⟩
 ·injection e with _ e2 _
  refine ⟨by omega,fun hm=>?_⟩
  have:=List.length_pos_iff.2 hm
  omega
 ·injection e with e1 e2 e3
  refine ⟨e2,fun _=>⟨g,e1,hg,fun i x hx=>?_⟩⟩
  have hc:=h.own.cells (g:=g) (by rw [e1];rfl)
  have key:∀ j u,j<6→(tkv x)[j]? = some u→W.cell? ⟨g,i*6+j,none⟩=some u:=fun j u hj hu=>by
   have:=hc (i*6+j) u (by rw [tkcs_at m i j x hx hj];exact hu)
   rwa [Addr.add_lit,Nat.zero_add] at this
  exact ⟨key 0 _ (by decide) rfl,key 1 _ (by decide) rfl,key 2 _ (by decide) rfl,key 3 _ (by decide) rfl,key 4 _ (by decide) rfl,key 5 _ (by decide) rfl⟩
theorem atc_two:∀ (l:List At) (i:Nat) (x:At),l[i]? = some x→(atc l)[i*2]? = some (.string (txt x.1))∧(atc l)[i*2+1]? = some (.string (txt x.2))
 | [],i,x,h=>by simp at h
 | y::r,0,x,h=>by
  have e:y=x:=by simpa using h
  have:atc (y::r)=atV y++atc r:=by simp [atc]
  rw [this,e]
  exact ⟨rfl,rfl⟩
 | y::r,i+1,x,h=>by
  have:atc (y::r)=atV y++atc r:=by simp [atc]
  have h6:(atV y).length=2:=rfl
  rw [this,List.getElem?_append_right (by omega),List.getElem?_append_right (by omega),h6,show (i+1)*2-2=i*2 by omega,show (i+1)*2+1-2=i*2+1 by omega]
  exact atc_two r i x (by simpa using h)
theorem AtV.at {W:World} {B:Nat} {v:Value} {l:List At} (h:AtV W B v l):∃ a cc,v = .slice a l.length cc∧(l≠[]→∃ g,a=some ⟨g,0,none⟩∧B≤g∧∀ i x,l[i]? = some x→W.cell? ⟨g,i*2,none⟩=some (.string (txt x.1))∧W.cell? ⟨g,i*2+1,none⟩=some (.string (txt x.2))):=by
 obtain ⟨a,cc,rfl,ho⟩:=h
 refine ⟨a,cc,rfl,fun hl=>?_⟩
 rcases ho.2 with ⟨e,h0⟩ | ⟨g,cap,cur,e,hg,_⟩
 ·have:=List.length_pos_iff.2 hl
  omega
 ·injection e with e1 e2 e3
  refine ⟨g,e1,hg,fun i x hx=>?_⟩
  have hc:=ho.cells (g:=g) (by rw [e1];rfl)
  obtain ⟨h1,h2⟩:=atc_two l i x hx
  have k1:=hc _ _ h1
  have k2:=hc _ _ h2
  rw [Addr.add_lit,Nat.zero_add] at k1 k2
  exact ⟨k1,k2⟩
theorem scan_lit (l:List Nat) (C:Array Value) (n:Nat) (hC:C=(u8s l).toArray) (hn:l.length=n) (hb:Bs l) (hl:n≤1000) (W:World) (hT:TT W) :
  Calls Tryz.prog 10 #[.slice (some ⟨W.heap.size,0,none⟩) n n] (W.alloc (.cells C 5 (n,n+1))) fun e w'=>ScTo (scP l) W e w':=by
 subst hC;subst hn
 have hbw:=lit_below W (.cells (u8s l).toArray 5 (l.length,l.length+1))
 have hs:Sl (W.alloc (.cells (u8s l).toArray 5 (l.length,l.length+1))) (some ⟨W.heap.size,0,none⟩) l.length l:=sl_text W l _ l.length _ _ rfl rfl rfl hb hl
 refine (scan_any _ _ l _ hs (by omega) (hT.grow hbw)).mono ?_
 rintro e w' ⟨h1,h2⟩
 refine ⟨hbw.trans (h1.mono (by rw [alloc_size];omega)),?_⟩
 rcases hr:scP l with ⟨a,er⟩ | x
 ·rw [hr] at h2;exact h2
 ·rw [hr] at h2
  obtain ⟨a,n,c,m,e1,e2,e3⟩:=h2
  exact ⟨a,n,c,m,e1,e2,e3.mono (by rw [alloc_size];omega)⟩
def src1:List Nat:=[60,63,120,109,108,32,118,101,114,115,105,111,110,61,39,49,46,48,39,63,62,60,97,32,98,61,34,49,38,97,109,112,59,50,34,62,120,38,35,54,53,59,60,47,97,62,60,33,45,45,32,114,32,45,45,62]
def src2:List Nat:=[60,97,62,60,47,97,32,98,62]
def src3:List Nat:=[60,33,68,79,67,84,89,80,69,32,97,62]
def tks1:List (Tk × Nat):=[(⟨1,[],[],[([118,101,114,115,105,111,110],[49,46,48])],false⟩,0),(⟨5,[97],[],[([98],[49,38,50])],false⟩,21),(⟨4,[],[120,65],[],false⟩,36),(⟨6,[97],[],[],false⟩,42),(⟨3,[],[32,114,32],[],false⟩,46)]
theorem scP1:scP src1 = .ok tks1:=by kernel_rfl
theorem scP2:scP src2 = .error (3,22):=by kernel_rfl
theorem scP3:scP src3 = .error (0,17):=by kernel_rfl
theorem esA1:esA true [97,60,34] = .tuple #[.string ⟨#[97,38,108,116,59,38,113,117,111,116,59]⟩,.bool true]:=by kernel_rfl
theorem txP1:txP [97,38,108,116,59,38,113,117,111,116,59]=some [97,60,34]:=by kernel_rfl
theorem m5 {m:List Tkm} (h:m.map Prod.fst=tks1):∃ v0 v1 v2 v3 v4,m=[((⟨1,[],[],[([118,101,114,115,105,111,110],[49,46,48])],false⟩,0),v0),((⟨5,[97],[],[([98],[49,38,50])],false⟩,21),v1),((⟨4,[],[120,65],[],false⟩,36),v2),((⟨6,[97],[],[],false⟩,42),v3),((⟨3,[],[32,114,32],[],false⟩,46),v4)]:=by
 unfold tks1 at h
 match m,h with
 | [(_,v0),(_,v1),(_,v2),(_,v3),(_,v4)],h=>
  simp only [List.map_cons,List.map_nil,List.cons.injEq,and_true] at h
  obtain ⟨rfl,rfl,rfl,rfl,rfl⟩:=h
  exact ⟨v0,v1,v2,v3,v4,rfl⟩
set_option maxHeartbeats 6400000 in
theorem alive_any (w:World) (hT:TT w):Calls Tryz.prog 8 #[] w fun e w'=>e = .returned (.bool true)∧Below w.heap.size w w':=by
 have hc:=fun (w:World) (C:Array Value) (n c:Nat)=>Lib.run_convert_bytes_const (P:=Tryz.prog) w 22 5 C n c Tryz.underlying22 Tryz.underlying5
 have HT:=Lib.hid fun (W:World) (hW:Below w.heap.size w W)=>hT.grow hW
 have K1:=Lib.hid (scan_lit src1 _ 56 rfl rfl (bs_l _ (by decide)) (by decide) w hT)
 rw [scP1] at K1
 have K2:=Lib.hid fun (W:World) (hW:TT W)=>scan_lit src2 _ 9 rfl rfl (bs_l _ (by decide)) (by decide) W hW
 rw [scP2] at K2
 have K3:=Lib.hid fun (W:World) (hW:TT W)=>scan_lit src3 _ 12 rfl rfl (bs_l _ (by decide)) (by decide) W hW
 rw [scP3] at K3
 have K4:=Lib.hid fun (W:World) (hW:TT W)=>escape_any [97,60,34] ⟨#[97,60,34]⟩ rfl (bs_l _ (by decide)) true W (by decide) hW
 rw [esA1] at K4
 have K5:=Lib.hid fun (W:World) (hW:TT W)=>text_any [97,38,108,116,59,38,113,117,111,116,59] ⟨#[97,38,108,116,59,38,113,117,111,116,59]⟩ rfl (bs_l _ (by decide)) W (by decide) hW
 rw [txP1,show tdR (some [97,60,34]) = .tuple #[.string ⟨#[97,60,34]⟩,.bool true] from rfl] at K5
 clear hT
 go_enter Tryz.func8,Tryz.ntmps8
 go_upto_region 6 with (first
  | (go_at_call 10;(refine K1.out.mono ?_);rintro e w1 ⟨hb1,a,n,c,m,rfl,hm1,ht1⟩;have HB1:=Lib.hid hb1;have HM1:=Lib.hid hm1;have HK1:=Lib.hid ht1;clear hb1 hm1 ht1 K1)
  | (go_at_call 10;(refine (K2.out w1 (HT.out w1 HB1.out)).mono ?_);rintro e w2 ⟨hb2,rfl⟩;have HC2:=Lib.hid hb2;have HB2:=Lib.hid (HB1.out.trans (hb2.mono HB1.out.size));clear hb2 K2)
  | (go_at_call 10;(refine (K3.out w2 (HT.out w2 HB2.out)).mono ?_);rintro e w3 ⟨hb3,rfl⟩;have HC3:=Lib.hid (HC2.out.trans (hb3.mono HC2.out.size));have HB3:=Lib.hid (HB2.out.trans (hb3.mono HB2.out.size));clear hb3 K3)
  | (go_at_call 18;(refine (K4.out w3 (HT.out w3 HB3.out)).mono ?_);rintro e w4 ⟨rfl,hb4⟩;have HC4:=Lib.hid (HC3.out.trans (hb4.mono HC3.out.size));have HB4:=Lib.hid (HB3.out.trans (hb4.mono HB3.out.size));clear hb4 K4)
  | (go_at_call 14;(refine (K5.out w4 (HT.out w4 HB4.out)).mono ?_);rintro e w5 ⟨rfl,hb5⟩;have HC5:=Lib.hid (HC4.out.trans (hb5.mono HC4.out.size));have HB5:=Lib.hid (HB4.out.trans (hb5.mono HB4.out.size));clear hb5 K5))
 obtain ⟨v0,v1,v2,v3,v4,hm⟩:=m5 HM1.out
 have hk:=HK1.out.touch (W':=w5) (Touch.of_below (S:=fun _=>False) HC5.out) (fun _ h=>h.elim)
 rw [hm] at hk
 clear HM1 HK1 hm
 obtain ⟨hn,hk2⟩:=hk.at
 obtain ⟨g,hg,hgB,h6⟩:=hk2 (by simp)
 have av:=(hk.av _ (List.mem_cons_of_mem _ (List.mem_cons_self ..))).1
 obtain ⟨a1,cc1,hv1,h1⟩:=av.at
 obtain ⟨g1,hg1,hg1B,h2⟩:=h1 (by simp)
 have x0:=h6 0 _ rfl
 have x1:=h6 1 _ rfl
 have x2:=h6 2 _ rfl
 have x3:=h6 3 _ rfl
 have x4:=h6 4 _ rfl
 have y0:=(h2 0 _ rfl).1
 have y1:=(h2 0 _ rfl).2
 have c0:=x0.k
 have c9:=x1.a
 have c14:=x2.t
 have c18:=x3.k
 have c26:=x4.t
 simp only [List.length_cons,List.length_nil,Nat.reduceAdd,Nat.reduceMul,Nat.zero_mul,Nat.zero_add ] at c0 c9 c14 c18 c26 y0 y1 hn hv1
 replace c14:w5.cell? ⟨g,14,none⟩=some (.string ⟨#[120,65]⟩):=c14
 replace c26:w5.cell? ⟨g,26,none⟩=some (.string ⟨#[32,114,32]⟩):=c26
 replace y0:w5.cell? ⟨g1,0,none⟩=some (.string ⟨#[98]⟩):=y0
 replace y1:w5.cell? ⟨g1,1,none⟩=some (.string ⟨#[49,38,50]⟩):=y1
 replace c0:w5.cell? ⟨g,0,none⟩=some (.int .i64 1):=c0
 replace c18:w5.cell? ⟨g,18,none⟩=some (.int .i64 6):=c18
 subst hn hg hv1 hg1
 clear x0 x1 x2 x3 x4 h6 h2 h1 hk2 hk HC2 HC3 HC4 HC5 HB1 HB2 HB3 HB4 HT hgB hg1B
 go_wp2
 go_ret
 exact ⟨rfl,HB5.out⟩
end
section
open Go.ChangeShapes Go.WideShapes Go.ChangeAt Go.RowKit Go.ChangeMaps
theorem own:ownKnob Tryz.prog.godebug=none:=by kernel_rfl
theorem laidOut:laidOutB Tryz.prog=true:=by kernel_rfl
abbrev laidT:List (String × DataW Unit):=[("math/bits.deBruijn32tab",Rows.laid_math_bits_deBruijn32tab),("math/bits.deBruijn64tab",Rows.laid_math_bits_deBruijn64tab),("internal/strconv.uint64pow10",Rows.laid_internal_strconv_uint64pow10),("unicode/utf8.acceptRanges",Rows.laid_unicode_utf8_acceptRanges),("strconv.ErrRange",Rows.laid_strconv_ErrRange),("strconv.ErrSyntax",Rows.laid_strconv_ErrSyntax),("unicode.asciiFold",Rows.laid_unicode_asciiFold),("unicode.caseOrbit",Rows.laid_unicode_caseOrbit),("unicode.CaseRanges",Rows.laid_unicode_CaseRanges),("unicode/utf8.first",Rows.laid_unicode_utf8_first)]
theorem laid_rows:Rows.tokenPlacesRow.laid=laidT:=by rfl
theorem utf_first:Rows.laid_unicode_utf8_first=Lib.firstData:=by rfl
theorem utf_accept:(Rows.laid_unicode_utf8_acceptRanges:DataW Unit)=Lib.acceptData:=by rfl
def foldZ:List Int:=(List.range 128).map fun c=>if c=75 then 107 else if c=107 then 8490 else if c=115 then 383 else ((fold1 c:Nat):Int)
theorem fold_data:(Rows.laid_unicode_asciiFold:DataW Unit)=Lib.tabData .u16 foldZ:=by rfl
theorem fold_at (c:Nat) (h:c<107∨(c<123∧108≤c∧c≠115)):foldZ[c]? = some ((fold1 c:Nat):Int):=by
 have:∀ c<123,(c<107∨(c<123∧108≤c∧c≠115))→foldZ[c]? = some ((fold1 c:Nat):Int):=by decide +kernel
 exact this c (by omega) h
theorem utf_tabs {w:World} (h3:Lib.VarReads Tryz.prog w "unicode/utf8.first" Lib.firstData) (h4:Lib.VarReads Tryz.prog w "unicode/utf8.acceptRanges" Lib.acceptData):Lib.Utf8Tabs 1 2 w:=by
 refine ⟨fun c hc=>?_,fun i hi=>?_⟩
 ·obtain ⟨g,t,cs,fuel,p,hg,hty,hvar,hd⟩:=h3
  obtain rfl:=Option.some.inj ((show Tryz.prog.globalNamed "unicode/utf8.first" = some 1 by kernel_rfl).symm.trans hg)
  obtain rfl:=Option.some.inj ((show (Tryz.prog.globals[1]?).map (·.type)=some 146 by kernel_rfl).symm.trans hty)
  have hcs:=Lib.cells_of_tab Tryz.underlying146 Tryz.underlying5 (by kernel_rfl) (by kernel_rfl) hd
  rw [World.var?_cell hg hvar c,←Array.getElem?_toList,hcs]
  simp [Lib.firstTab,hc]
 ·obtain ⟨g,t,cs,fuel,p,hg,hty,hvar,hd⟩:=h4
  obtain rfl:=Option.some.inj ((show Tryz.prog.globalNamed "unicode/utf8.acceptRanges" = some 2 by kernel_rfl).symm.trans hg)
  obtain rfl:=Option.some.inj ((show (Tryz.prog.globals[2]?).map (·.type)=some 149 by kernel_rfl).symm.trans hty)
  obtain ⟨fuel',d,q,hdi,he⟩:=Lib.array_elem Tryz.underlying149 hd i hi
  simp only [List.getElem?_map,List.getElem?_range hi,Option.map_some,Option.some.injEq] at hdi
  subst hdi
  have c148:Tryz.prog.cellsOf 148=2:=by kernel_rfl
  rw [c148] at he
  have hcs:=Lib.ints_of_struct Tryz.underlying148 (fun j f hj=>by
   match j,hj with
   | 0,hj=>simp at hj;subst hj;exact ⟨Tryz.underlying5,rfl,by kernel_rfl⟩
   | 1,hj=>simp at hj;subst hj;exact ⟨Tryz.underlying5,rfl,by kernel_rfl⟩
   | j+2,hj=>simp at hj) (by rw [c148];rfl) he
  have e0:=congrArg (·[0]?) hcs
  have e1:=congrArg (·[1]?) hcs
  simp only [List.getElem?_take,List.getElem?_drop] at e0 e1
  constructor
  ·rw [World.var?_cell hg hvar (2*i),←Array.getElem?_toList]
   simpa [Nat.mul_comm] using e0
  ·rw [World.var?_cell hg hvar (2*i+1),←Array.getElem?_toList]
   simpa [Nat.mul_comm] using e1
theorem fold_tab {w:World} (h3:Lib.VarReads Tryz.prog w "unicode.asciiFold" (Lib.tabData .u16 foldZ)):∀ c,c<107∨(c<123∧108≤c∧c≠115)→w.cell? ⟨3,c,none⟩=some (.int .u16 (fold1 c:Nat)):=fun c hc=>by
 obtain ⟨g,t,cs,fuel,p,hg,hty,hvar,hd⟩:=h3
 obtain rfl:=Option.some.inj ((show Tryz.prog.globalNamed "unicode.asciiFold" = some 3 by kernel_rfl).symm.trans hg)
 obtain rfl:=Option.some.inj ((show (Tryz.prog.globals[3]?).map (·.type)=some 155 by kernel_rfl).symm.trans hty)
 have hcs:=Lib.cells_of_tab Tryz.underlying155 Tryz.underlying154 (by kernel_rfl) (by kernel_rfl) hd
 rw [World.var?_cell hg hvar c,←Array.getElem?_toList,hcs,List.getElem?_map,fold_at c hc]
 rfl
theorem star:("*errors.errorString" : String) = "*" ++ "errors.errorString" := by kernel_rfl
theorem row177:∀ u,Tryz.prog.typeName? 3 u=some "*errors.errorString" → u=177:=fun u h=>
 typeName_ptr_named (nm := "errors.errorString") (by rw [←star];kernel_rfl) (by kernel_rfl) (by decide) u (by rw [←star];exact h)
theorem tt_of {W:World} (h:laidMetH Tryz.prog laidT W) (hs:W.ShapedOpen Tryz.prog):TT W:=by
 rw [MakeChecks.laidMetH_plain _ _ _ (by kernel_rfl)] at h
 refine ⟨⟨utf_tabs ?_ ?_,?_⟩,?_,?_⟩
 ·have:=Lib.laidMet.reads h (n := "unicode/utf8.first") (d:=Rows.laid_unicode_utf8_first) (by simp)
  rwa [utf_first] at this
 ·have:=Lib.laidMet.reads h (n := "unicode/utf8.acceptRanges") (d:=Rows.laid_unicode_utf8_acceptRanges) (by simp)
  rwa [utf_accept] at this
 ·exact Go.Proofs.cell_of_shapedOpen_int (zero := #[.int .i64 0]) (t:=3) hs (of_decide_eq_true (by kernel_rfl)) (by kernel_rfl) rfl (by kernel_rfl) (by kernel_rfl) Tryz.underlying3
 ·have:=Lib.laidMet.reads h (n := "unicode.asciiFold") (d:=Rows.laid_unicode_asciiFold) (by simp)
  rw [fold_data] at this
  exact fold_tab this
 ·obtain ⟨a0,s0,hv0,_,_,_⟩:=laid_sentinel (tp:=177) (te:=179) (ts:=9) h.tail.tail.tail.tail.tail (show Tryz.prog.globalNamed "strconv.ErrSyntax" = some 6 by kernel_rfl) (show (Tryz.prog.globals[6]?).map (·.type)=some 71 by kernel_rfl) Tryz.underlying71 row177 Tryz.underlying177 Tryz.underlying179 rfl rfl Tryz.underlying9 (by kernel_rfl) (by kernel_rfl)
  have hc:=World.var?_cell (show Tryz.prog.globalNamed "strconv.ErrSyntax" = some 6 by kernel_rfl) hv0 0
  exact ⟨_,hc.trans rfl,.inr ⟨_,_,rfl⟩⟩
theorem handed {H:Type} {enc:TypeId × Value→H} {a:Assume} {C:Checked} {os:Os} {f:FuncId} {fn:Func} {s:ChangeSpec} {conds:List PathCond} {apart fresh handsOn again:Bool} {X:World→Array Value→Prop}
  (hX:∀ (w w':World) (args:Array Value),w.heap=w'.heap→X w args→X w' args)
  (own:ownKnob C.prog.godebug=none) (started:os.Started) (noInit:C.prog.inits.idxOf? f=none) (hfn:C.prog.funcs[f]? = some fn)
  (witness:∃ (w:World) (tape:Tape) (i:Input),w.os=os∧(w.forCall tape i).Shaped C.prog∧i.vars=[]∧Input.okWide C.prog (w.forCall tape i) .any w.heap.size f i∧
   ((s.pre enc C.prog fn conds apart (w.forCall tape i).memory i.args∧X (w.forCall tape i).memory i.args)∧sizedMet enc C.prog fn (OpenSpec.ofChange s) apart (w.forCall tape i).memory i.args)∧a.holds C.prog (lone (Frame.enter C.prog f i.args .normal) [] (w.forCall tape i)))
  (contract:∀ (W:World) (base:Nat) (args:Array Value) (ds gs:List (DataW H)) (before:List MemPlace),
   (∀ (j:Nat) t v,fn.params[j]? = some t→args[j]? = some v→Value.okWide C.prog W .any base t v)→
   DataW.Whole enc C.prog fn.params.toList s.vars apart W args.toList ds gs before→X W args→W.ShapedOpen C.prog→
   Calls C.prog f args W fun e W'=>∃ v,e = .returned v∧s.post enc C.prog fn apart fresh handsOn again W args v W') :
  ReturnsInHanded a C os f .any (fun w args=>(s.pre enc C.prog fn conds apart w args∧X w args)∧sizedMet enc C.prog fn (OpenSpec.ofChange s) apart w args) (s.post enc C.prog fn apart fresh handsOn again):=by
 refine returnsInHanded_of_calls own started noInit witness ?_
 intro w tape i _ hsh _ hok hpre hholds
 obtain ⟨_,_,_,fn',hfn',_,_,_,_,hval⟩:=hok
 have e:fn'=fn:=Option.some.inj (hfn'.symm.trans hfn)
 subst e
 obtain ⟨⟨⟨ds,gs,before,hw,hc⟩,hx⟩,hz⟩:=hpre
 have hw':=DataW.Whole.of_heap (w':=w.forCall tape i) (by rfl) hw
 refine (contract (w.forCall tape i) w.heap.size i.args ds gs before hval hw' (hX _ _ _ (by rfl) hx) hsh).mono fun e W' ⟨v,he,hp⟩=>?_
 subst he
 exact ChangeSpec.post_blind hp
section
variable {H:Type} {enc:TypeId × Value→H} {w:World} {base:Nat} {spare:Nat→Bool} {held:Bool} {fuel:Nat}
theorem sl_open {a:Option Addr} {len cap:Nat} {y:DataW H × List MemPlace}
  (h:DataW.trod enc Tryz.prog w base spare held fuel 22 [.slice a len cap]=some y):∃ xs:List Nat,xs.length=len∧Sl w a cap xs:=by
 rcases open_ints Tryz.underlying22 Tryz.underlying5 (by kernel_rfl) h with ⟨hcs,_⟩ | ⟨ad,l,c,zs,hcs,_,hl,hm,hz,_,hcell,hwf⟩
 ·simp at hcs
  obtain ⟨rfl,rfl,rfl⟩:=hcs
  exact ⟨[],rfl,Sl.none_ w⟩
 ·simp at hcs
  obtain ⟨rfl,rfl,rfl⟩:=hcs
  have hzl:len≤zs.length:=by rw [hz];split <;> omega
  have hbd:∀ n∈zs,0≤n∧n<256:=fun n hn=>by have:=bounds_u8 (hwf n hn);omega
  have hlen:((zs.take len).map Int.toNat).length=len:=by rw [List.length_map,List.length_take];omega
  refine ⟨(zs.take len).map Int.toNat,hlen,?_,by rw [hlen];exact hl,hm,(fun e=>by cases e),?_⟩
  ·by_cases h0:len=0
   ·left
    exact List.eq_nil_of_length_eq_zero (by rw [hlen,h0])
   ·right
    have hc0:=hcell 0 (by omega)
    obtain ⟨b,off,spot⟩:=ad
    have hspot:spot=none:=by simpa [Addr.add] using World.cell?_spot hc0
    subst hspot
    refine ⟨b,off,rfl,fun j hj=>?_⟩
    rw [hlen] at hj
    have hcj:=hcell j (by omega)
    rw [Addr.add_lit] at hcj
    rw [hcj]
    have hm':=hbd (zs[j]'(by omega)) (List.getElem_mem _)
    simp [List.getD,hj,show j<zs.length by omega,Int.toNat_of_nonneg hm'.1]
  ·intro x hx
   obtain ⟨z,hz1,rfl⟩:=List.mem_map.1 hx
   have:=hbd z (List.mem_of_mem_take hz1)
   omega
end
end
section
open Go.RowKit Go.Proofs.YtbogfailbgbdoaaGreatDoor U
structure Rp (w:World) (p:Nat) (xs:List Nat) (k fr er pl:Nat):Prop where
 blk:Blk w p 55 #[.string (txt xs),.int .i64 (k:Nat),.int .i64 (fr:Nat),.int .i64 (er:Nat),.int .i64 (pl:Nat)]
 bs:Bs xs
 le:k≤xs.length
 len:xs.length≤1000000
section
variable {w w':World} {p:Nat} {xs:List Nat} {k fr er pl:Nat}
theorem Rp.c0 (h:Rp w p xs k fr er pl):w.cell? ⟨p,0,none⟩=some (.string (txt xs)):=(h.blk.cell 0).trans rfl
theorem Rp.c1 (h:Rp w p xs k fr er pl):w.cell? ⟨p,1,none⟩=some (.int .i64 (k:Nat)):=(h.blk.cell 1).trans rfl
theorem Rp.c2 (h:Rp w p xs k fr er pl):w.cell? ⟨p,2,none⟩=some (.int .i64 (fr:Nat)):=(h.blk.cell 2).trans rfl
theorem Rp.c3 (h:Rp w p xs k fr er pl):w.cell? ⟨p,3,none⟩=some (.int .i64 (er:Nat)):=(h.blk.cell 3).trans rfl
theorem Rp.c4 (h:Rp w p xs k fr er pl):w.cell? ⟨p,4,none⟩=some (.int .i64 (pl:Nat)):=(h.blk.cell 4).trans rfl
theorem Rp.below (h:Rp w p xs k fr er pl) (hb:Below w.heap.size w w'):Rp w' p xs k fr er pl:=⟨h.blk.below hb,h.bs,h.le,h.len⟩
theorem Rp.set1 (h:Rp w p xs k fr er pl) (k':Nat) (hk:k'≤xs.length):Rp (w.setCell ⟨p,1,none⟩ (.int .i64 (k':Nat))) p xs k' fr er pl:=⟨h.blk.setCell 1 _,h.bs,hk,h.len⟩
theorem Rp.drew (h:Rp w p xs k fr er pl) (q:Nat):Rp (w.drewN q) p xs k fr er pl:=h.below (below_drewN (Below.refl _ w) q)
end
section
variable (w:World) (p:Nat) (xs:List Nat) (k fr er pl:Nat)
set_option maxHeartbeats 1600000 in
theorem rfail_any (x:Nat) (h:Rp w p xs k fr er pl) :
  Calls Tryz.prog 49 #[.pointer (some ⟨p,0,none⟩),.int .i64 (x:Nat)] w fun e w'=>e = .returned (.tuple #[])∧Touch (fun i=>i=p) w w'∧Rp w' p xs k fr (if er=0 then x else er) (if er=0 then fr else pl):=by
 have H:=Lib.hid h
 have c2:=h.c2
 have c3:=h.c3
 have c4:=h.c4
 have f3:=h.blk.free 3
 have f4:=h.blk.free 4
 clear h
 by_cases he:er=0
 ·subst he
  go_enter Tryz.func49,Tryz.ntmps49
  go_wp2
  go_end0
  exact ⟨rfl,(touch_set p 3 w _).trans (touch_set p 4 _ _),⟨(H.out.blk.setCell 3 _).setCell 4 _,H.out.bs,H.out.le,H.out.len⟩⟩
 ·rw [if_neg he,if_neg he]
  have he':((er:Int) == 0)=false:=beq_eq_false_iff_ne.2 (by omega)
  go_enter Tryz.func49,Tryz.ntmps49
  go_wp2
  all_goals try (exfalso;omega)
  go_end0
  exact ⟨rfl,Touch.refl _ _,H.out⟩
set_option maxHeartbeats 1600000 in
theorem rdigit_any (c:Nat) (hc:c<256) :
  Calls Tryz.prog 60 #[.int .u8 (c:Nat)] w fun e w'=>e = .returned (.int .i64 ((if 48≤c∧c≤57 then c-48 else if 97≤c∧c≤102 then c-97+10 else if 65≤c∧c≤70 then c-65+10 else 99:Nat):Int))∧w'=w:=by
 obtain ⟨R,hR⟩:∃ R:Nat,R=(if 48≤c∧c≤57 then c-48 else if 97≤c∧c≤102 then c-97+10 else if 65≤c∧c≤70 then c-65+10 else 99):=⟨_,rfl⟩
 rw [←hR]
 have HR:=Lib.hid hR
 clear hR
 go_enter Tryz.func60,Tryz.ntmps60
 go_wp2
 all_goals try (exfalso;omega)
 all_goals go_ret
 all_goals (refine ⟨?_,rfl⟩;rw [HR.out])
 all_goals (repeat' split)
 all_goals first
  | (exfalso;omega)
  | (show Ending.returned (.int .i64 _) = .returned (.int .i64 _);congr 2;try omega)
def RhTo (s:List Nat) (w:World) (e:Ending) (w':World):Prop:=
 e = .returned (.bool (decide (er=0∧s <+: xs.drop k)))∧Touch (fun i=>i=p) w w'∧Rp w' p xs (if er=0∧s <+: xs.drop k then k+s.length else k) fr er pl
theorem txt_extract (L:List Nat) (i j:Nat):(txt L).extract i j=txt ((L.drop i).take (j-i)):=by
 apply ByteArray.ext
 rw [ByteArray.data_extract]
 simp [txt,u8L,List.map_drop,List.map_take,List.take_drop]
set_option maxHeartbeats 3200000 in
theorem rhas_any (s:List Nat) (T:ByteArray) (hT:T=txt s) (hs:Bs s) (hl:s.length≤1000) (h:Rp w p xs k fr er pl) :
  Calls Tryz.prog 46 #[.pointer (some ⟨p,0,none⟩),.string T] w (RhTo p xs k fr er pl s w):=by
 have H:=Lib.hid h
 have c0:=h.c0
 have c1:=h.c1
 have c3:=h.c3
 have f1:=h.blk.free 1
 have hkl:=h.le
 have hlen:=h.len
 have hTz:T.size=s.length:=by rw [hT];exact txt_size s
 have hSz:(txt xs).size=xs.length:=txt_size xs
 unfold RhTo
 by_cases he:er=0
 ·subst he
  by_cases hn:xs.length-k<s.length
  ·have hno:¬(0=0∧s <+: xs.drop k):=fun h=>by have:=h.2.length_le;rw [List.length_drop] at this;omega
   rw [decide_eq_false hno,if_neg hno]
   generalize txt xs=S at c0 hSz
   obtain ⟨n,hnn⟩:∃ n,n=s.length:=⟨_,rfl⟩
   rw [←hnn] at hTz hn
   have hlt:(xs.length:Int)-k<n:=by omega
   clear h hno hT hl hnn
   go_enter Tryz.func46,Tryz.ntmps46
   go_upto_region 1 with fail
   go_quiet (fail)
   go_wp2
   go_ret
   exact ⟨rfl,(Touch.refl _ w).drewN _,H.out.drew _⟩
  ·have hpc:(txt xs).extract k (k+s.length)=txt ((xs.drop k).take s.length):=by rw [txt_extract,Nat.add_sub_cancel_left]
   have hpre:(s <+: xs.drop k)↔(xs.drop k).take s.length=s:=List.prefix_iff_eq_take.trans eq_comm
   obtain ⟨n,hnn⟩:∃ n,n=s.length:=⟨_,rfl⟩
   have hge:¬((xs.length:Int)-k<n):=by omega
   obtain ⟨t,ht⟩:∃ t,t=k+n:=⟨_,rfl⟩
   have htl:t≤xs.length:=by omega
   have htk:k≤t:=by omega
   have hsum:(k:Int)+n=t:=by omega
   have hsl:∀ W,(Instr.slice 9 (.string (txt xs)) (some (.int .i64 (k:Nat))) (some (.int .i64 (t:Nat))) none).run Tryz.prog W = .ok (.string ((txt xs).extract k t)) W:=fun W=>by
    have h1:(0:Int)≤k∧(k:Int)≤t:=by omega
    have h2:(t:Int)≤(txt xs).size:=by rw [hSz];omega
    simp [go_sem,h1,h2]
   rw [show (txt xs).extract k t=txt ((xs.drop k).take s.length) by rw [ht,hnn];exact hpc] at hsl
   have hTn:(T.size:Int)=n:=by rw [hTz,hnn]
   have hSn:((txt xs).size:Int)=xs.length:=by rw [hSz]
   rw [←hnn] at hTz
   by_cases hp:s <+: xs.drop k
   ·rw [hpre.1 hp,←hT] at hsl
    have hyes:0=0∧s <+: xs.drop k:=⟨rfl,hp⟩
    rw [decide_eq_true hyes,if_pos hyes,←hnn,←ht]
    generalize txt xs=S at c0 hSz hsl hSn
    clear h hT hl hnn hyes hpre hpc hp ht
    go_enter Tryz.func46,Tryz.ntmps46
    go_upto_region 1 with fail
    go_quiet (fail)
    go_wp2
    go_ret
    exact ⟨rfl,((Touch.refl _ w).drewN _).trans (touch_set p 1 _ _),(H.out.drew _).set1 t htl⟩
   ·have hno:¬(0=0∧s <+: xs.drop k):=fun h=>hp h.2
    rw [decide_eq_false hno,if_neg hno]
    have hnt:¬(xs.drop k).take s.length=s:=fun h=>hp (hpre.2 h)
    have hl1:(txt ((xs.drop k).take s.length)).toList≠T.toList:=by
     rw [hT,txt_toList,txt_toList]
     exact fun e=>hnt (u8L_inj ((H.out.bs.drop k).take _) hs e)
    have hl2:((txt ((xs.drop k).take s.length)).toList == T.toList)=false:=beq_eq_false_iff_ne.2 hl1
    generalize txt ((xs.drop k).take s.length)=PC at hsl hl1 hl2
    generalize txt xs=S at c0 hSz hsl hSn
    clear h hno hT hl hnn hpre hpc hp ht hnt
    go_enter Tryz.func46,Tryz.ntmps46
    go_upto_region 1 with fail
    go_quiet (fail)
    go_wp2
    go_ret
    exact ⟨rfl,(Touch.refl _ w).drewN _,H.out.drew _⟩
 ·have hno:¬(er=0∧s <+: xs.drop k):=fun h=>he h.1
  rw [decide_eq_false hno,if_neg hno]
  generalize txt xs=S at c0 hSz
  have hb:((er:Int) != 0)=true:=bne_iff_ne.2 (by omega)
  have hb2:¬(er:Int)=0:=by omega
  clear h hno hT hl
  go_enter Tryz.func46,Tryz.ntmps46
  go_upto_region 1 with fail
  go_quiet (fail)
  go_wp2
  go_ret
  exact ⟨rfl,(Touch.refl _ w).drewN _,H.out.drew _⟩
end
end
end Go.Proofs.YtbogfailbgbdoaaGreatDoor.K
namespace Go.Proofs.YtbogfailbgbdoaaGreatDoor
set_option maxRecDepth 100000
section
open Go.RowKit U
def spP (v a b:Int):Bool:=decide (a≤v) && decide (v≤b)
theorem span_any (v a b:Int) (w:World):Calls Tryz.prog 62 #[.int .i64 v,.int .i64 a,.int .i64 b] w fun e w'=>e = .returned (.bool (spP v a b))∧w=w':=by
 by_cases h1:a≤v
 ·by_cases h2:v≤b
  ·have HR:Hid (spP v a b=true):=Lib.hid (by simp [spP,h1,h2])
   go_enter Tryz.func62,Tryz.ntmps62
   go_wp2
   go_ret
   exact ⟨by rw [HR.out];rfl,rfl⟩
  ·have HR:Hid (spP v a b=false):=Lib.hid (by simp [spP,h2])
   go_enter Tryz.func62,Tryz.ntmps62
   go_wp2
   go_ret
   exact ⟨by rw [HR.out];rfl,rfl⟩
 ·have HR:Hid (spP v a b=false):=Lib.hid (by simp [spP,h1])
  go_enter Tryz.func62,Tryz.ntmps62
  go_wp2
  go_ret
  exact ⟨by rw [HR.out];rfl,rfl⟩
theorem rSign_any (v:Int) (w:World):Calls Tryz.prog 61 #[.int .i64 v] w fun e w'=>e = .returned (.bool (Lib.validRune v))∧w=w':=by
 have hv:Lib.validRune v=decide ((0≤v∧v<55296)∨(57343<v∧v≤1114111)):=rfl
 by_cases h1:0≤v
 ·by_cases h2:v≤1114111
  ·by_cases h3:v<55296
   ·have HR:Hid (Lib.validRune v=true):=Lib.hid (by rw [hv];exact decide_eq_true (by omega))
    clear hv
    go_enter Tryz.func61,Tryz.ntmps61
    go_wp2
    go_ret
    exact ⟨by rw [HR.out];rfl,rfl⟩
   ·by_cases h4:57343<v
    ·have HR:Hid (Lib.validRune v=true):=Lib.hid (by rw [hv];exact decide_eq_true (by omega))
     clear hv
     go_enter Tryz.func61,Tryz.ntmps61
     go_wp2
     go_ret
     exact ⟨by rw [HR.out];rfl,rfl⟩
    ·have HR:Hid (Lib.validRune v=false):=Lib.hid (by rw [hv];exact decide_eq_false (by omega))
     clear hv
     go_enter Tryz.func61,Tryz.ntmps61
     go_wp2
     go_ret
     exact ⟨by rw [HR.out];rfl,rfl⟩
  ·have HR:Hid (Lib.validRune v=false):=Lib.hid (by rw [hv];exact decide_eq_false (by omega))
   clear hv
   go_enter Tryz.func61,Tryz.ntmps61
   go_wp2
   go_ret
   exact ⟨by rw [HR.out];rfl,rfl⟩
 ·have HR:Hid (Lib.validRune v=false):=Lib.hid (by rw [hv];exact decide_eq_false (by omega))
  clear hv
  go_enter Tryz.func61,Tryz.ntmps61
  go_wp2
  go_ret
  exact ⟨by rw [HR.out];rfl,rfl⟩
theorem or_parts {a b:Bool}:(a || b)=true→a=true∨(a=false∧b=true):=by cases a <;> simp
theorem wth_cons (s:Int × Int) (L:List (Int × Int)) (r:Int):wth (s::L) r=(spP r s.1 s.2 || wth L r):=rfl
set_option maxHeartbeats 1600000 in
theorem rChar_any (v:Int) (w:World):Calls Tryz.prog 32 #[.int .i64 v] w fun e w'=>e = .returned (.bool (wth charL v))∧w=w':=by
 have K1:=Lib.hid fun W=>span_any v 32 55295 W
 have K2:=Lib.hid fun W=>span_any v 57344 65533 W
 have K3:=Lib.hid fun W=>span_any v 65536 1114111 W
 have hw:wth charL v=(spP v 32 55295 || (spP v 9 10 || (spP v 13 13 || (spP v 57344 65533 || (spP v 65536 1114111 || false))))):=rfl
 have h9:spP v 9 10=(decide (v=9) || decide (v=10)):=by
  unfold spP;rw [Bool.eq_iff_iff];simp only [Bool.and_eq_true,Bool.or_eq_true,decide_eq_true_eq];omega
 have h13:spP v 13 13=decide (v=13):=by
  unfold spP;rw [Bool.eq_iff_iff];simp only [Bool.and_eq_true,decide_eq_true_eq];omega
 rw [h9,h13] at hw
 generalize spP v 32 55295=a at K1 hw
 generalize spP v 57344 65533=b at K2 hw
 generalize spP v 65536 1114111=c at K3 hw
 obtain ⟨R,hR⟩:∃ R,R=wth charL v:=⟨_,rfl⟩
 rw [←hR] at hw ⊢
 clear hR h9 h13
 by_cases d1:v=9
 ·subst d1
  have HR:Hid (R=true):=Lib.hid (by rw [hw];simp)
  clear hw
  go_enter Tryz.func32,Tryz.ntmps32
  go_wp2
  go_ret
  exact ⟨by rw [HR.out];rfl,rfl⟩
 by_cases d2:v=10
 ·subst d2
  have HR:Hid (R=true):=Lib.hid (by rw [hw];simp)
  clear hw
  go_enter Tryz.func32,Tryz.ntmps32
  go_wp2
  go_ret
  exact ⟨by rw [HR.out];rfl,rfl⟩
 by_cases d3:v=13
 ·subst d3
  have HR:Hid (R=true):=Lib.hid (by rw [hw];simp)
  clear hw
  go_enter Tryz.func32,Tryz.ntmps32
  go_wp2
  go_ret
  exact ⟨by rw [HR.out];rfl,rfl⟩
 have HR:Hid (R=(a || (b || c))):=Lib.hid (by rw [hw];simp [d1,d2,d3])
 have g1:(v == 9)=false:=beq_eq_false_iff_ne.2 d1
 have g2:(v == 10)=false:=beq_eq_false_iff_ne.2 d2
 have g3:(v == 13)=false:=beq_eq_false_iff_ne.2 d3
 clear hw d1 d2 d3
 cases a <;> cases b <;> cases c
 all_goals
  go_enter Tryz.func32,Tryz.ntmps32
  go_wp2_with (first
   | (go_at_call 62;(with_reducible refine (K1.out _).mono ?_);rintro e w1 ⟨rfl,rfl⟩)
   | (go_at_call 62;(with_reducible refine (K2.out _).mono ?_);rintro e w1 ⟨rfl,rfl⟩)
   | (go_at_call 62;(with_reducible refine (K3.out _).mono ?_);rintro e w1 ⟨rfl,rfl⟩))
  go_ret
  exact ⟨by rw [HR.out];rfl,rfl⟩
theorem rBlank_any (v:Int) (w:World):Calls Tryz.prog 44 #[.int .i64 v] w fun e w'=>e = .returned (.bool (wth blankL v))∧w=w':=by
 have hw:wth blankL v=decide (v=32∨v=9∨v=10∨v=13):=by
  have:wth blankL v=(spP v 32 32 || (spP v 9 10 || (spP v 13 13 || false))):=rfl
  rw [this]
  unfold spP;rw [Bool.eq_iff_iff];simp only [Bool.and_eq_true,Bool.or_eq_true,decide_eq_true_eq,Bool.false_eq_true,or_false];omega
 rw [hw]
 clear hw
 by_cases d1:v=32
 ·subst d1
  go_enter Tryz.func44,Tryz.ntmps44
  go_wp2
  go_ret
  exact ⟨rfl,rfl⟩
 by_cases d2:v=9
 ·subst d2
  go_enter Tryz.func44,Tryz.ntmps44
  go_wp2
  go_ret
  exact ⟨rfl,rfl⟩
 by_cases d3:v=10
 ·subst d3
  go_enter Tryz.func44,Tryz.ntmps44
  go_wp2
  go_ret
  exact ⟨rfl,rfl⟩
 by_cases d4:v=13
 ·subst d4
  go_enter Tryz.func44,Tryz.ntmps44
  go_wp2
  go_ret
  exact ⟨rfl,rfl⟩
 have HR:Hid (decide (v=32∨v=9∨v=10∨v=13)=false):=Lib.hid (decide_eq_false (by omega))
 have g1:(v == 32)=false:=beq_eq_false_iff_ne.2 d1
 have g2:(v == 9)=false:=beq_eq_false_iff_ne.2 d2
 have g3:(v == 10)=false:=beq_eq_false_iff_ne.2 d3
 have g4:(v == 13)=false:=beq_eq_false_iff_ne.2 d4
 clear d1 d2 d3 d4
 go_enter Tryz.func44,Tryz.ntmps44
 go_wp2
 go_ret
 exact ⟨by rw [HR.out];rfl,rfl⟩
def restL:List (Int × Int):=[(192,214),(216,246),(248,767),(880,893),(895,8191),(8204,8205),(8304,8591),(11264,12271),(12289,55295),(63744,64975),(65008,65533),(65536,983039)]
theorem begins_parts (v:Int):wth beginsL v=((spP v 65 90 || spP v 97 122) || (decide (v=95) || wth restL v)):=by
 have h:wth beginsL v=(spP v 97 122 || (spP v 65 90 || (spP v 95 95 || wth restL v))):=rfl
 have h95:spP v 95 95=decide (v=95):=by
  unfold spP;rw [Bool.eq_iff_iff];simp only [Bool.and_eq_true,decide_eq_true_eq];omega
 rw [h,h95]
 cases spP v 97 122 <;> cases spP v 65 90 <;> simp
def rest64:Array Value:=(restL.flatMap fun s=>[Value.int .i64 s.1,Value.int .i64 s.2]).toArray
theorem rest_at:∀ k,k<12→rest64[2*k]? = some (.int .i64 (restL.getD k (0,0)).1)∧rest64[2*k+1]? = some (.int .i64 (restL.getD k (0,0)).2):=by
 intro k hk
 have:k=0∨k=1∨k=2∨k=3∨k=4∨k=5∨k=6∨k=7∨k=8∨k=9∨k=10∨k=11:=by omega
 rcases this with rfl | rfl | rfl | rfl | rfl | rfl | rfl | rfl | rfl | rfl | rfl | rfl <;> exact ⟨rfl,rfl⟩
set_option maxHeartbeats 3200000 in
theorem rBegins_any (v:Int) (w:World):Calls Tryz.prog 77 #[.int .i64 v] w fun e w'=>e = .returned (.bool (wth beginsL v))∧Below w.heap.size w w':=by
 have KS:=Lib.hid fun (a b:Int) W=>span_any v a b W
 have hw:=begins_parts v
 obtain ⟨R,hR⟩:∃ R,R=wth beginsL v:=⟨_,rfl⟩
 rw [←hR] at hw ⊢
 have HW:=Lib.hid hw
 clear hR hw
 obtain ⟨p1,hp1⟩:∃ p,p=spP v 65 90:=⟨_,rfl⟩
 obtain ⟨p2,hp2⟩:∃ p,p=spP v 97 122:=⟨_,rfl⟩
 have K1:=Lib.hid fun W=>KS.out 65 90 W
 have K2:=Lib.hid fun W=>KS.out 97 122 W
 rw [←hp1,←hp2] at HW
 rw [←hp1] at K1
 rw [←hp2] at K2
 clear hp1 hp2
 cases p1 with
 | true=>
  have HR:Hid (R=true):=Lib.hid (by rw [HW.out];rfl)
  go_enter Tryz.func77,Tryz.ntmps77
  go_wp2_with (go_at_call 62;(with_reducible refine (K1.out _).mono ?_);rintro e w1 ⟨rfl,rfl⟩)
  go_ret
  exact ⟨by rw [HR.out];rfl,Below.refl _ _⟩
 | false=>
  cases p2 with
  | true=>
   have HR:Hid (R=true):=Lib.hid (by rw [HW.out];rfl)
   go_enter Tryz.func77,Tryz.ntmps77
   go_wp2_with (first
    | (go_at_call 62;(with_reducible refine (K1.out _).mono ?_);rintro e w1 ⟨rfl,rfl⟩)
    | (go_at_call 62;(with_reducible refine (K2.out _).mono ?_);rintro e w1 ⟨rfl,rfl⟩))
   go_ret
   exact ⟨by rw [HR.out];rfl,Below.refl _ _⟩
  | false=>
   by_cases d95:v=95
   ·have HR:Hid (R=true):=Lib.hid (by rw [HW.out,decide_eq_true d95];rfl)
    have g:(v == 95)=true:=beq_iff_eq.2 d95
    clear d95
    go_enter Tryz.func77,Tryz.ntmps77
    go_wp2_with (first
     | (go_at_call 62;(with_reducible refine (K1.out _).mono ?_);rintro e w1 ⟨rfl,rfl⟩)
     | (go_at_call 62;(with_reducible refine (K2.out _).mono ?_);rintro e w1 ⟨rfl,rfl⟩))
    go_ret
    exact ⟨by rw [HR.out];rfl,Below.refl _ _⟩
   have HR:Hid (R=wth restL v):=Lib.hid (by rw [HW.out,decide_eq_false d95];rfl)
   have g:(v == 95)=false:=beq_eq_false_iff_ne.2 d95
   clear d95 HW
   have HC:Hid (∀ k,k<12→(w.alloc (.cells rest64 3)).cell? ⟨w.heap.size,2*k,none⟩=some (.int .i64 (restL.getD k (0,0)).1)∧(w.alloc (.cells rest64 3)).cell? ⟨w.heap.size,2*k+1,none⟩=some (.int .i64 (restL.getD k (0,0)).2)):=Lib.hid fun k hk=>by
    rw [World.cell?_alloc_at _ _ _ _ rfl,World.cell?_alloc_at _ _ _ _ rfl]
    exact rest_at k hk
   have HB:Hid (Below w.heap.size w (w.alloc (.cells rest64 3))):=Lib.hid ((Below.refl _ w).alloc (Nat.le_refl _) _)
   obtain ⟨W0,hW0⟩:∃ W0,W0=w.alloc (.cells rest64 3):=⟨_,rfl⟩
   rw [←hW0] at HC HB
   go_enter Tryz.func77,Tryz.ntmps77
   go_wp2_with (first
    | (go_at_call 62;(with_reducible refine (K1.out _).mono ?_);rintro e w1 ⟨rfl,rfl⟩)
    | (go_at_call 62;(with_reducible refine (K2.out _).mono ?_);rintro e w1 ⟨rfl,rfl⟩))
   rw [show w.alloc (.cells #[.int .i64 192,.int .i64 214,.int .i64 216,.int .i64 246,.int .i64 248,.int .i64 767,.int .i64 880,.int .i64 893,.int .i64 895,.int .i64 8191,.int .i64 8204,.int .i64 8205,.int .i64 8304,.int .i64 8591,.int .i64 11264,.int .i64 12271,.int .i64 12289,.int .i64 55295,.int .i64 63744,.int .i64 64975,.int .i64 65008,.int .i64 65533,.int .i64 65536,.int .i64 983039] 3)=W0 from hW0.symm]
   obtain ⟨b,hb⟩:∃ b,b=w.heap.size:=⟨_,rfl⟩
   rw [←hb] at HC ⊢
   clear hW0 hb
   go_loopg [4] 12 (fun gh v4 wr=>∃ (k q:Nat),k≤12∧12-k≤gh∧v4 = .int .i64 (2*k:Nat)∧wr=W0.drewN q∧Hid (R=wth (restL.drop k) v))
   case atStart=>exact ⟨0,0,by omega,by omega,rfl,rfl,HR⟩
   case round=>
    obtain ⟨k,q,hk,hgh,rfl,rfl,hrel⟩:=hrel
    by_cases hlt:k<12
    ·obtain ⟨c1,c2⟩:=HC.out k hlt
     have hst:=hrel.out
     rw [wth_drop (show k<restL.length from hlt)] at hst
     obtain ⟨x,hx⟩:∃ x,x=(restL.getD k (0,0)).1:=⟨_,rfl⟩
     obtain ⟨y,hy⟩:∃ y,y=(restL.getD k (0,0)).2:=⟨_,rfl⟩
     rw [←hx,←hy] at hst
     rw [←hx] at c1
     rw [←hy] at c2
     have hst:R=(spP v x y || wth (restL.drop (k+1)) v):=hst
     have HST:=Lib.hid hst
     have KX:=Lib.hid fun W=>KS.out x y W
     obtain ⟨s,hs⟩:∃ s,s=spP v x y:=⟨_,rfl⟩
     rw [←hs] at HST KX
     obtain ⟨j,hj⟩:∃ j,j=2*k:=⟨_,rfl⟩
     rw [←hj] at c1 c2 ⊢
     have hjj:(j:Int)<24:=by omega
     obtain ⟨j1,hj1e⟩:∃ j1,j1=j+1:=⟨_,rfl⟩
     rw [←hj1e] at c2
     have hj1:IntKind.i64.wrap ((j:Int)+1)=(j1:Int):=by rw [IntKind.wrap_i64];omega
     have hj2:IntKind.i64.wrap ((j:Int)+2)=((2*(k+1):Nat):Int):=by rw [IntKind.wrap_i64];omega
     have hj24:(j1:Int)<24:=by omega
     clear hx hy hst hs hrel hj hj1e
     go_wp2_with fail
     go_quiet ((go_at_call 62;exact (KX.out _).mono fun e w' h=>⟨h.1,_,h.2.symm⟩))
     cases s with
     | true=>
      have HR2:Hid (R=true):=Lib.hid (by rw [HST.out];rfl)
      go_wp2
      go_ret
      exact ⟨by rw [HR2.out];rfl,below_drewN (below_drewN HB.out _) _⟩
     | false=>
      have HR2:Hid (R=wth (restL.drop (k+1)) v):=Lib.hid (by rw [HST.out];rfl)
      go_wp2
      go_roundg (12-(k+1))
      case measure=>omega
      case rel=>exact ⟨k+1,_,by omega,Nat.le_refl _,by simp,(by first | rfl | exact World.drewN_drewN _ _ _),HR2⟩
    ·obtain rfl:k=12:=by omega
     have HR2:Hid (R=false):=Lib.hid (by rw [hrel.out];rfl)
     go_wp2
     go_ret
     exact ⟨by rw [HR2.out];rfl,below_drewN HB.out _⟩
def rn (a:Nat):Nat:=if 240≤a then 4 else if 224≤a then 3 else if 192≤a then 2 else if 128≤a then 0 else 1
def rv0 (a:Nat):Nat:=if 240≤a then a-240 else if 224≤a then a-224 else if 192≤a then a-192 else a
def rvF (L:List Nat):Nat→Nat
 | 0=>0
 | 1=>rv0 (L.getD 0 0)
 | i+2=>rvF L (i+1)*64+L.getD (i+1) 0%64
def rfN (L:List Nat):Nat × Nat:=
 if rn (L.getD 0 0)=0∨L.length<rn (L.getD 0 0) then (0,0)
 else if ¬isSign (rvF L (rn (L.getD 0 0))) then (0,0)
 else if (enc (rvF L (rn (L.getD 0 0)))).length≠rn (L.getD 0 0) then (0,0)
 else if L.take (rn (L.getD 0 0))≠enc (rvF L (rn (L.getD 0 0))) then (0,0)
 else (rvF L (rn (L.getD 0 0)),rn (L.getD 0 0))
theorem rn_enc {u:Nat} (h:isSign u) (t:List Nat):rn ((enc u++t).getD 0 0)=(enc u).length∧rvF (enc u++t) (enc u).length=u:=by
 obtain ⟨h1,h2⟩:=h
 unfold enc
 by_cases c1:u<128
 ·simp only [if_pos c1]
  simp only [List.cons_append,List.nil_append,List.getD_cons_zero,List.length_cons,List.length_nil,Nat.zero_add,rvF,rn,rv0]
  repeat' split
  all_goals omega
 simp only [if_neg c1]
 by_cases c2:u<2048
 ·simp only [if_pos c2]
  simp only [List.cons_append,List.nil_append,List.getD_cons_zero,List.getD_cons_succ,List.length_cons,List.length_nil,Nat.zero_add,Nat.reduceAdd,rvF,rn,rv0]
  constructor <;> (repeat' split) <;> omega
 simp only [if_neg c2]
 by_cases c3:u<65536
 ·simp only [if_pos c3]
  simp only [List.cons_append,List.nil_append,List.getD_cons_zero,List.getD_cons_succ,List.length_cons,List.length_nil,Nat.zero_add,Nat.reduceAdd,rvF,rn,rv0]
  constructor <;> (repeat' split) <;> omega
 simp only [if_neg c3]
 simp only [List.cons_append,List.nil_append,List.getD_cons_zero,List.getD_cons_succ,List.length_cons,List.length_nil,Nat.zero_add,Nat.reduceAdd,rvF,rn,rv0]
 constructor <;> (repeat' split) <;> omega
theorem rfN_nx {L:List Nat} (hb:Bs L):rfN L=nx L:=by
 by_cases h:(nx L).2=0
 ·rw [nx_none h]
  unfold rfN
  split
  ·rfl
  split
  ·rfl
  split
  ·rfl
  split
  ·rfl
  ·exfalso
   rename_i h1 h2 h3 h4
   have h2:isSign (rvF L (rn (L.getD 0 0))):=Classical.byContradiction h2
   have h4:L.take (rn (L.getD 0 0))=enc (rvF L (rn (L.getD 0 0))):=Classical.byContradiction h4
   have e:L=enc (rvF L (rn (L.getD 0 0)))++L.drop (rn (L.getD 0 0)):=by rw [←h4,List.take_append_drop]
   have:=nx_enc h2 (L.drop (rn (L.getD 0 0)))
   rw [←e] at this
   rw [this] at h
   have hp:=enc_pos (rvF L (rn (L.getD 0 0)))
   simp only at h
   omega
 ·obtain ⟨s1,s2,s3,s4⟩:=nx_some hb h
  obtain ⟨u,hu⟩:∃ u,u=(nx L).1:=⟨_,rfl⟩
  obtain ⟨n,hn⟩:∃ n,n=(nx L).2:=⟨_,rfl⟩
  have hx:nx L=(u,n):=by rw [hu,hn]
  rw [←hu] at s1 s2 s3
  rw [←hn] at s2 s3 s4 h
  have e:L=enc u++L.drop n:=by rw [←s3,List.take_append_drop]
  obtain ⟨k1,k2⟩:=rn_enc s1 (L.drop n)
  rw [←e] at k1 k2
  rw [hx]
  unfold rfN
  rw [k1,k2,←s2]
  rw [if_neg (by omega),if_neg (by simpa using s1),if_neg (by simp),if_neg (by simpa using s3)]
theorem goes_parts (v:Int):goesP v=(wth beginsL v || (spP v 48 57 || (decide (v=45) || (decide (v=46) || (decide (v=183) || (spP v 768 879 || spP v 8255 8256)))))):=by
 have h:wth goesL v=(spP v 48 57 || (spP v 45 46 || (spP v 183 183 || (spP v 768 879 || (spP v 8255 8256 || false))))):=rfl
 have h1:spP v 45 46=(decide (v=45) || decide (v=46)):=by
  unfold spP;rw [Bool.eq_iff_iff];simp only [Bool.and_eq_true,Bool.or_eq_true,decide_eq_true_eq];omega
 have h2:spP v 183 183=decide (v=183):=by
  unfold spP;rw [Bool.eq_iff_iff];simp only [Bool.and_eq_true,decide_eq_true_eq];omega
 unfold goesP
 rw [h,h1,h2]
 simp [Bool.or_assoc]
set_option maxHeartbeats 6400000 in
theorem rGoes_any (v:Int) (w:World):Calls Tryz.prog 78 #[.int .i64 v] w fun e w'=>e = .returned (.bool (goesP v))∧Below w.heap.size w w':=by
 have hw:=goes_parts v
 have KB:=Lib.hid (rBegins_any v w)
 have K1:=Lib.hid fun W=>span_any v 48 57 W
 have K2:=Lib.hid fun W=>span_any v 768 879 W
 have K3:=Lib.hid fun W=>span_any v 8255 8256 W
 generalize wth beginsL v=p at hw KB
 generalize spP v 48 57=a at hw K1
 generalize spP v 768 879=b at hw K2
 generalize spP v 8255 8256=c at hw K3
 obtain ⟨R,hR⟩:∃ R,R=goesP v:=⟨_,rfl⟩
 rw [←hR] at hw ⊢
 clear hR
 by_cases d:v=45∨v=46∨v=183
 ·have HR:Hid (R=true):=Lib.hid (by rw [hw];rcases d with rfl | rfl | rfl <;> simp)
  clear hw
  cases p <;> cases a <;> rcases d with rfl | rfl | rfl
  all_goals
   go_enter Tryz.func78,Tryz.ntmps78
   go_wp2_with (first
    | (go_at_call 77;(with_reducible refine KB.out.mono ?_);rintro e w1 ⟨rfl,hb⟩;have HB:=Lib.hid hb;clear hb)
    | (go_at_call 62;(with_reducible refine (K1.out _).mono ?_);rintro e wq ⟨rfl,rfl⟩))
   go_ret
   exact ⟨by rw [HR.out];rfl,HB.out⟩
 ·have d1:¬v=45:=fun e=>d (.inl e)
  have d2:¬v=46:=fun e=>d (.inr (.inl e))
  have d3:¬v=183:=fun e=>d (.inr (.inr e))
  have HR:Hid (R=(p || (a || (b || c)))):=Lib.hid (by rw [hw];simp [d1,d2,d3])
  have g1:(v == 45)=false:=beq_eq_false_iff_ne.2 d1
  have g2:(v == 46)=false:=beq_eq_false_iff_ne.2 d2
  have g3:(v == 183)=false:=beq_eq_false_iff_ne.2 d3
  clear hw d1 d2 d3 d
  cases p <;> cases a <;> cases b <;> cases c
  all_goals
   go_enter Tryz.func78,Tryz.ntmps78
   go_wp2_with (first
    | (go_at_call 77;(with_reducible refine KB.out.mono ?_);rintro e w1 ⟨rfl,hb⟩;have HB:=Lib.hid hb;clear hb)
    | (go_at_call 62;(with_reducible refine (K1.out _).mono ?_);rintro e wq ⟨rfl,rfl⟩)
    | (go_at_call 62;(with_reducible refine (K2.out _).mono ?_);rintro e wq ⟨rfl,rfl⟩)
    | (go_at_call 62;(with_reducible refine (K3.out _).mono ?_);rintro e wq ⟨rfl,rfl⟩))
   go_ret
   exact ⟨by rw [HR.out];rfl,HB.out⟩
theorem sl_row (w:World) (xs:List Nat) (cs:Array Value) (n:Nat) (hn:xs.length=n) (hc:cs=(u8s xs).toArray) (hb:Bs xs) (hm:n≤1000):SlTo xs w (.returned (.slice (some ⟨w.heap.size,0,none⟩) n n)) (w.alloc (.cells cs 5)):=by
 subst hn
 exact ⟨_,_,rfl,sl_text w xs cs xs.length _ (0,0) rfl rfl hc hb hm,lit_below w _⟩
set_option maxHeartbeats 1600000 in
theorem rBytes_any (v:Nat) (h:isSign v) (w:World):Calls Tryz.prog 30 #[.int .i64 (v:Nat)] w (SlTo (enc v) w):=by
 obtain ⟨h1,_⟩:=h
 have heb:=enc_byte h1
 unfold enc at heb ⊢
 by_cases c1:v<128
 ·simp only [if_pos c1] at heb ⊢
  have z1:(v:Int)<128:=by omega
  have HEB:=Lib.hid heb
  have HX:Hid (IntKind.u8.wrap (v:Int)=(v:Int)):=Lib.hid (by rw [IntKind.wrap_u8];omega)
  have hx:=HX.out
  clear c1 heb
  go_enter Tryz.func30,Tryz.ntmps30
  go_wp2
  go_ret
  exact sl_row w [v] _ 1 rfl (by simp [u8s]) HEB.out (by decide)
 by_cases c2:v<2048
 ·simp only [if_neg c1,if_pos c2] at heb ⊢
  have z1:¬(v:Int)<128:=by omega
  have z2:(v:Int)<2048:=by omega
  have HEB:=Lib.hid heb
  clear c1 c2 heb
  go_enter Tryz.func30,Tryz.ntmps30
  go_wp2
  go_ret
  exact sl_row w [192+v/64,128+v%64] _ 2 rfl (by simp [u8s]) HEB.out (by decide)
 by_cases c3:v<65536
 ·simp only [if_neg c1,if_neg c2,if_pos c3] at heb ⊢
  have z1:¬(v:Int)<128:=by omega
  have z2:¬(v:Int)<2048:=by omega
  have z3:(v:Int)<65536:=by omega
  have HEB:=Lib.hid heb
  clear c1 c2 c3 heb
  go_enter Tryz.func30,Tryz.ntmps30
  go_wp2
  go_ret
  exact sl_row w [224+v/4096,128+v/64%64,128+v%64] _ 3 rfl (by simp [u8s]) HEB.out (by decide)
 simp only [if_neg c1,if_neg c2,if_neg c3] at heb ⊢
 have z1:¬(v:Int)<128:=by omega
 have z2:¬(v:Int)<2048:=by omega
 have z3:¬(v:Int)<65536:=by omega
 have HEB:=Lib.hid heb
 clear c1 c2 c3 heb
 go_enter Tryz.func30,Tryz.ntmps30
 go_wp2
 go_ret
 exact sl_row w [240+v/262144,128+v/4096%64,128+v/64%64,128+v%64] _ 4 rfl (by simp [u8s]) HEB.out (by decide)
end
end Go.Proofs.YtbogfailbgbdoaaGreatDoor
