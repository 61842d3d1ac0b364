/- Part 27. -/
import Derived.Deep.CutBlock
import Derived.Test.YtacpfpghokcdlaaGreatDoorXB26
open Go.Proofs.Tryz
namespace Go.Proofs.YtacpfpghokcdlaaGreatDoor
set_option maxRecDepth 100000
section
open Go.Lib renaming hid → J
open Go.RowKit
theorem zgM {w w1:World}{base pw:Nat}{g:Option Nat}{Q:List (Nat × Nat)}{ao:Option Addr}{r:List (Int × Int)}(h:Y.TS w ao r) (hq:Pq w base pw g Q w1) (ho:∀ b off,ao=some ⟨b,off,none⟩→¬xG pw g b):Y.TS w1 ao r:=by
 rcases h with h | ⟨b,off,rfl,hc⟩
 ·exact .inl h
 ·obtain ⟨_,_,ht,_⟩:=hq
  refine .inr ⟨b,off,rfl,fun j v hv=>?_⟩;have h1:=hc j v hv;have h2:=World.block_lt_of_cell? w _ h1;have h3:=ht.block b h2 (ho b off rfl);rw [←h1];simp [World.cell?,h3]
theorem kD.grow {w w1:World}(h:kD w) (hb:Below w.heap.size w w1):kD w1:=fun j hj=>(hb.cell (World.block_lt_of_cell? w _ (h j hj))).trans (h j hj)
theorem kD.put {w w1:World}{base pw:Nat}{g:Option Nat}{P Q:List (Nat × Nat)}(h:kD w) (hw:Wq w base pw g P) (hq:Pq w base pw g Q w1) (hb:2≤base):kD w1:=fun j hj=>by
 rw [←h j hj];exact (zt.low hq hw).cell (p:=⟨1,j,none⟩) (show 1<base by omega)
def ext (x:Nat × Nat):List (Nat × Nat):=if 16≤x.1∧x.1≤18 then [(x.2,xb x.1)] else []
theorem Ua (own:List Nat) (x:Nat × Nat):qS own x=cp own x.1::ext x:=by
 unfold qS ext;split <;> rfl
theorem zgX (y:Nat):xb y≤7:=by unfold xb;split;omega;split;omega;split <;> omega
theorem zjz {w:World}{base pw:Nat}{g:Option Nat}{P:List (Nat × Nat)}(h:Wq w base pw g P) (hn:wid P≤7000000000){x:Nat × Nat}(h1:16≤x.1∧x.1≤18→x.2<2^xb x.1) (h2:¬(16≤x.1∧x.1≤18)→x.2=0) :
  Calls prog 70 #[.pointer (some ⟨pw,0,none⟩),.int .u32 x.2,.int .i64 (xb x.1:Nat)] w fun e w'=>e=.returned (.tuple #[])∧Pq w base pw g (P++ext x) w':=by
 by_cases c:16≤x.1∧x.1≤18
 ·unfold ext
  rw [if_pos c];exact h.put hn x.2 (xb x.1) x.2 rfl (by have:=zgX x.1;omega) (h1 c)
 ·have e:xb x.1=0:=by unfold xb;rw [if_neg (by omega),if_neg (by omega),if_neg (by omega)]
  unfold ext;rw [if_neg c,e,h2 c,List.append_nil];exact h.put0 hn 0 (by decide)
def hdP (n1 n2:Nat) (row:List Nat):List (Nat × Nat):=(n1-257,5)::(n2-1,5)::(jO (qD row) 19-4,4)::((yb (qD row)).map (fun x=>(x,3))++(zC row).flatMap (qS (qD row)))
theorem XF (r:List Tok):vd r=hdP (flF r).length (olF r).length (qG r):=by
 unfold vd ye hdP;rw [yK,JN (Ja _)]
def oP (own:List Nat) (k:Nat):List (Nat × Nat):=(ord.take k).map fun j=>(own.getD j 0,3)
theorem zbQ (own:List Nat):(yb own).map (fun x=>(x,3))=oP own (jO own 19):=by unfold yb oP;rw [List.map_map];rfl
theorem zhL (own:List Nat){k:Nat}(hk:k<19):oP own (k+1)=oP own k++[(own.getD (ord.getD k 0) 0,3)]:=by
 have h19:k<ord.length:=hk;unfold oP;rw [List.take_succ_eq_append_getElem h19,List.map_append,List.map_singleton,List.getD_eq_getElem?_getD (l:=ord),List.getElem?_eq_getElem h19];rfl
theorem zaO (own:List Nat) (k:Nat):wid (oP own k)≤57:=by
 have:∀ l:List Nat,wid (l.map fun j=>(own.getD j 0,3))=3*l.length:=fun l=>by
  induction l with
  | nil=>rfl
  | cons x l ih=>rw [List.map_cons,wid,ih,List.length_cons];omega
 unfold oP;rw [this,List.length_take];have:ord.length=19:=rfl;omega
theorem Xk {own:List Nat}(H:Ok own) (l:List (Nat × Nat)):wid (l.flatMap (qS own))≤22*l.length:=by
 induction l with
 | nil=>exact Nat.zero_le _
 | cons x l ih=>
  rw [List.flatMap_cons,zh,List.length_cons];have h1:wid (qS own x)≤22:=by
   have:=z6 H x.1;have:=zgX x.1;rw [Ua];unfold ext;split <;> simp only [wid,cp] <;> omega
  omega
theorem zj3:∀ j,j<19→ord.getD j 0<19:=by decide
theorem zjq (row:List Nat) (o:Nat):(qD row).getD o 0<8:=by
 rcases Nat.lt_or_ge o (qD row).length with e | e
 ·rw [List.getD_eq_getElem?_getD,List.getElem?_eq_getElem e];exact za8 row _ (List.getElem_mem e)
 ·rw [List.getD_eq_getElem?_getD,List.getElem?_eq_none e];decide
set_option maxHeartbeats 6400000 in
theorem Ut {w:World}{base pw B:Nat}{g:Option Nat}{P:List (Nat × Nat)}{row:List Nat}{g2 ic n1 n2:Nat}{ia:Option Addr}(h:Wq w base pw g P) (hn:wid P≤1000000000) (hT:kD w) (hb:2≤base) (hH:Hd B w row g2 ia) (hia:∀ b off,ia=some ⟨b,off,none⟩→¬xG pw g b)
  (h15:∀ x∈row,x≤15) (hl:row.length≤320) (h1:257≤n1∧n1≤288) (h2:1≤n2∧n2≤32) :
  Calls prog 92 #[hdV n1 n2 g2 ia (qA row).length ic,.pointer (some ⟨pw,0,none⟩)] w fun e w'=>e=.returned (.tuple #[])∧Pq w base pw g (P++hdP n1 n2 row) w':=by
 obtain ⟨own,hown⟩:=exq (qD row);obtain ⟨L,hL⟩:=exq ((qA row).length);have HL:=J hL;have hL3:L≤320:=by have:=kA row;omega
 obtain ⟨w1,hw1⟩:=exq (w.alloc (.cells #[.int .i64 n1,.int .i64 n2,.slice (some ⟨g2,0,none⟩) 19 19,.slice ia L ic] 145));have B1:Hid (Below w.heap.size w w1):=J (by rw [hw1];exact (Below.refl _ _).alloc (Nat.le_refl _) _);obtain ⟨q,hq⟩:=exq (w.heap.size);have R1:Hid (Blk w1 q 145 #[.int .i64 n1,.int .i64 n2,.slice (some ⟨g2,0,none⟩) 19 19,.slice ia L ic]):=J (by rw [hw1,hq];exact Blk.made _ _ _);have HW:=J (h.grow B1.out);have HT:=J (hT.grow B1.out);have HH:=J (hH.grow B1.out);have HIA:=J hia;have HOK:Hid (Ok own):=J (by rw [hown];exact vH row);have HOL:Hid (own.length=19):=J (by rw [hown];exact Ja row);have HO8:Hid (∀ o,own.getD o 0<8):=J fun o=>by rw [hown];exact zjq row o
 have HIT:=J fun (k:Nat) (hk:k<(qA row).length)=>zeY h15 hl hk
 have HIO:=J fun (x:Nat × Nat) (hx:x∈zC row)=>ja h15 hl hx
 have HIS:Hid (∀ x∈zC row,ln own x.1≠0):=J fun x hx=>by rw [hown];exact U2 h15 hl hx
 have HBS:=J hb;have HOW:=J hown;obtain ⟨N,hN⟩:=exq (jO own 19);have hNb:=JL own 19 (by omega);rw [←hN] at hNb;have hN4:=hNb.1;have hN19:=hNb.2;have HN:=J hN;obtain ⟨m1,hm1⟩:=exq (n1-257);obtain ⟨m2,hm2⟩:=exq (n2-1);obtain ⟨m3,hm3⟩:=exq (N-4);have d1:(n1:Int)-257=(m1:Int):=by omega
 have d2:(n2:Int)-1=(m2:Int):=by omega
 have d3:(N:Int)-4=(m3:Int):=by omega
 have hm1':m1≤31:=by omega
 have hm2':m2≤31:=by omega
 have hm3':m3≤15:=by omega
 have HD:Hid ((n1:Int)-257=(m1:Int)∧(n2:Int)-1=(m2:Int)∧(N:Int)-4=(m3:Int)):=J ⟨d1,d2,d3⟩;have HA:Hid (P++hdP n1 n2 row=(((P++[(m1,5)])++[(m2,5)])++[(m3,4)])++oP own N++((zC row).take L).flatMap (qS own)):=J (by
  unfold hdP;rw [←hown,zbQ,←hN,←hm1,←hm2,←hm3,hL,←xQ,List.take_length];simp)
 rw [←hL];unfold hdV;clear h hT hH hia hown hL hN hNb hm1 hm2 hm3 d1 d2 d3 h15 hl hb;go_enter func92,ntmps92;go_upto_region 1 with fail
 rw [←hw1,←hq];clear hw1 hq;go_upto_block 0 with fail
 go_cut [4] from 10 to 24 (fun v4 wx=>v4=.int .i64 (N:Nat)∧Hid (Below w1.heap.size w1 wx));case first=>
  go_wp2_with fail
  go_loopw [4] (fun v4 wr=>∃ (k:Nat),4≤k∧k≤19∧v4=.int .i64 (k:Nat)∧Hid (jO own k=N)∧Hid (Below w1.heap.size w1 wr)) (fun v4 _=>(intOf v4).toNat)
  case atStart=>exact ⟨19,by omega,by omega,rfl,J HN.out.symm,J (Below.refl _ _)⟩
  case round=>
   obtain ⟨k,hk4,hk19,rfl,HK,HB⟩:=hrel;have HRr:=J (R1.out.below HB.out);have HTr:=J (HT.out.grow HB.out);have HHr:=J (HH.out.grow HB.out);have BA:=J (fun n=>HB.out.on (below_drewN (Below.refl wr.heap.size wr) n));by_cases c1:4<k
   ·have c1':(4:Int)<k:=by omega
    obtain ⟨j,hj⟩:=exq (k-1);have hj19:j<19:=by omega
    have hj':(k:Int)-1=(j:Int):=by omega
    have HJ:Hid (k=j+1):=J (by omega);obtain ⟨o,ho⟩:=exq (ord.getD j 0);have ho19:o<19:=by rw [ho];exact zj3 j hj19
    obtain ⟨x,hx⟩:=exq (own.getD o 0);have t1:=HTr.out j hj19;rw [←ho] at t1;have t2:=(HRr.out.cell 2).trans (show _=some (.slice (some ⟨g2,0,none⟩) 19 19) from rfl);have t3:wr.cell? ⟨g2,o,none⟩=some (.int .i64 (x:Nat)):=by
     rw [HHr.out.own.cell,zw _ _ _ ho19,hx,HOW.out]
    have HX:Hid (own.getD (ord.getD j 0) 0=x):=J (by rw [←ho,hx]);have hjz:(j:Int)<19:=by omega
    have hoz:(o:Int)<19:=by omega
    clear hj ho hx;by_cases h0:x=0
    ·subst h0
     go_wp2_with fail
     go_quiet (fail)
     go_wp2;go_roundw;case rel=>exact ⟨j,by have:=HJ.out;omega,by omega,rfl,J (by have:=HK.out;rw [HJ.out,jO,if_pos ⟨by have:=HJ.out;omega,HX.out⟩] at this;exact this),J (BA.out _)⟩
     case measure=>have:=HJ.out;simp [intOf];omega
    ·have h0':((x:Int) == 0)=false:=by simp;omega
     have HKN:Hid (k=N):=J (by have:=HK.out;rw [HJ.out,jO,if_neg (by rw [HX.out];omega)] at this;rw [HJ.out];exact this);clear h0;go_wp2_with fail
     go_quiet (fail)
     go_wp2_with fail
     go_meet
     case rel=>exact ⟨by rw [HKN.out],J (BA.out _)⟩
   ·have c1':decide ((4:Int)<k)=false:=decide_eq_false (by omega)
    have c1z:(k:Int)≤4:=by omega
    have HKN:Hid (k=N):=J (by
     have h3:=HK.out;obtain ⟨j,rfl⟩:∃ j,k=j+1:=⟨k-1,by omega⟩;rw [jO,if_neg (by omega)] at h3;exact h3)
    clear c1;go_wp2_with fail
    go_quiet (fail)
    go_wp2_with fail
    go_meet
    case rel=>exact ⟨by rw [HKN.out],J (BA.out _)⟩
 case rest=>
  obtain ⟨rfl,HB⟩:=hcut;have W2:=J (HW.out.grow HB.out);have R2:=J (R1.out.below HB.out);have T2:=J (HT.out.grow HB.out);have H2:=J (HH.out.grow HB.out);have B2:=J (B1.out.on HB.out);obtain ⟨P3,hP3⟩:=exq (((P++[(m1,5)])++[(m2,5)])++[(m3,4)]);have hw3:wid P3≤1000000014:=by rw [hP3];simp only [zh,wid];omega
  have HP3:=J hP3;clear hP3;have d0:=(R2.out.cell 0).trans (show _=some (.int .i64 (n1:Nat)) from rfl);have e1:=HD.out.1;go_wp2_with fail
  refine (W2.out.put (by omega) (m1:Int) 5 m1 rfl (by omega) (by show m1<32;omega)).mono ?_;rintro e w3 ⟨rfl,hq⟩;obtain ⟨g3,hw3',hk3⟩:=hq.then;have W3:=J hw3';have K3:=J hk3;have R3:=J (zt.blk hq W2.out R2.out (by decide) (by decide));have d1:=(R3.out.cell 1).trans (show _=some (.int .i64 (n2:Nat)) from rfl);have e2:=HD.out.2.1;clear hq hw3' hk3 d0 e1;go_wp2_with fail
  refine (W3.out.put (by simp only [zh,wid];omega) (m2:Int) 5 m2 rfl (by omega) (by show m2<32;omega)).mono ?_;rintro e w4 ⟨rfl,hq⟩;obtain ⟨g4,hw4',hk4⟩:=hq.then;have W4:=J hw4';have K4:=J fun Q w5 h=>K3.out Q w5 (hk4 Q w5 h)
  have e3:=HD.out.2.2;clear hq hw4' hk4 d1 e2;go_wp2_with fail
  refine (W4.out.put (by simp only [zh,wid];omega) (m3:Int) 4 m3 rfl (by omega) (by show m3<16;omega)).mono ?_;rintro e w5 ⟨rfl,hq⟩;have HQ5:Hid (Pq wc base pw g P3 w5):=J (by rw [HP3.out];exact K4.out _ _ hq);have HO3:=J fun k=>zaO own k
  clear hq e3 W3 W4 K3 K4 R3;go_wp2_with fail
  go_loopw [43] (fun v43 wr=>∃ (k:Nat),k≤N∧v43=.int .i64 (k:Nat)∧Hid (Pq wc base pw g (P3++oP own k) wr)) (fun v43 _=>N-(intOf v43).toNat)
  case atStart=>exact ⟨0,Nat.zero_le _,rfl,J (by have:=HQ5.out;simpa [oP] using this)⟩
  case round=>
   obtain ⟨k,hk,rfl,HX⟩:=hrel;clear HQ5;have Rr:=J (zt.blk HX.out W2.out R2.out (by decide) (by decide));have Or:=J (zt.blk HX.out W2.out H2.out.own (by decide) (by decide));have Tr:=J (T2.out.put W2.out HX.out HBS.out);obtain ⟨gk,hwk,hkk⟩:=HX.out.then;have Wk:=J hwk;have Kk:=J hkk;clear hwk hkk;have hwd:wid (P3++oP own k)≤1000001000:=by rw [zh];have:=HO3.out k;omega
   by_cases hlt:k<N
   ·have hlt':(k:Int)<N:=by omega
    have hk19:k<19:=by omega
    obtain ⟨o,ho⟩:=exq (ord.getD k 0);have ho19:o<19:=by rw [ho];exact zj3 k hk19
    obtain ⟨x,hx⟩:=exq (own.getD o 0);have hx8:x<8:=by rw [hx];exact HO8.out o
    have t1:=Tr.out k hk19;rw [←ho] at t1;have t2:=(Rr.out.cell 2).trans (show _=some (.slice (some ⟨g2,0,none⟩) 19 19) from rfl);have t3:wr.cell? ⟨g2,o,none⟩=some (.int .i64 (x:Nat)):=by
     rw [Or.out.cell,zw _ _ _ ho19,hx,HOW.out]
    have HSC:Hid (oP own (k+1)=oP own k++[(x,3)]):=J (by rw [zhL own hk19,←ho,hx]);have hkz:(k:Int)<19:=by omega
    have hoz:(o:Int)<19:=by omega
    have HP:=J ((Wk.out.grow (zf wr)).put (by omega) (x:Int) 3 x rfl (by omega) (by show x<8;omega));clear ho hx;go_wp2_with fail
    go_still_tail 9,(by kernel_rfl)
    change wpList _ _ _ _ _ wr.drew;go_wp2_with fail
    refine HP.out.mono ?_;rintro e w7 ⟨rfl,hq⟩;have HQ:=J (Kk.out _ _ (Pq.undrew hq));clear hq HP;go_wp2;go_roundw;case rel=>exact ⟨k+1,by omega,by go_num,J (by rw [HSC.out,←List.append_assoc];exact HQ.out)⟩
    case measure=>simp [intOf];omega
   ·obtain rfl:k=N:=by omega
    have t2:=(Rr.out.cell 2).trans (show _=some (.slice (some ⟨g2,0,none⟩) 19 19) from rfl);have HIR:Hid (IS wr (some ⟨g2,0,none⟩) (Y.ints own)):=J (by
     have h1:=Or.out;rw [←HOW.out] at h1;have:=kh (L:=own) h1 19 (Nat.le_refl _) HOL.out.symm;rwa [show own.take 19=own by rw [←HOL.out,List.take_length]] at this)
    have HNW:=J (QY HOK.out (some ⟨g2,0,none⟩) 19 19 wr HIR.out HOL.out.symm);go_wp2_with fail
    refine HNW.out.mono ?_;rintro e w8 ⟨cc,rfl,hc,hb⟩;have C8:=J hc;obtain ⟨P4,hP4⟩:=exq (P3++oP own k);have HP4:=J hP4;rw [←hP4] at hwd;have HX8:Hid (Pq wc base pw g P4 w8):=J (by rw [hP4];exact HX.out.grow hb);have R8:=J (zt.blk HX8.out W2.out R2.out (by decide) (by decide));have t3:=(R8.out.cell 3).trans (show _=some (.slice ia L ic) from rfl);clear hc hb hP4 HX Rr Or Tr Wk Kk t2 HIR HNW;go_wp2_with fail
    go_loopw [66] (fun v66 wr=>∃ (k:Nat),k≤L∧v66=.int .i64 (k:Nat)∧Hid (Pq wc base pw g (P4++((zC row).take k).flatMap (qS own)) wr)∧Hid (zg wr cc own)) (fun v66 _=>L-(intOf v66).toNat)
    case atStart=>exact ⟨0,Nat.zero_le _,rfl,J (by have:=HX8.out;simpa using this),C8⟩
    case round=>
     clear HX8 C8;obtain ⟨i,hi,rfl,HX,HC⟩:=hrel;obtain ⟨gk,hwk,hkk⟩:=HX.out.then;have Wk:=J hwk;have Kk:=J hkk;have Ir:=J (zgM H2.out.its HX.out HIA.out);have hwd2:wid (P4++((zC row).take i).flatMap (qS own))≤1000020000:=by
      rw [zh];have h3:=Xk HOK.out ((zC row).take i);have h4:((zC row).take i).length≤i:=by rw [List.length_take];omega
      omega
     clear hwk hkk;by_cases hlt:i<L
     ·have hlt':(i:Int)<L:=by omega
      have hlz:i<(qA row).length:=by rw [←HL.out];exact hlt
      obtain ⟨i1,i2,i3⟩:=HIT.out i hlz;obtain ⟨b,off,rfl,t0,t1⟩:=Y.TS.at Ir.out hlz;rw [i1] at t0 t1;obtain ⟨hy1,hy2,hy3⟩:=HIO.out _ i2;have hy4:=HIS.out _ i2;obtain ⟨s,hs⟩:=exq ((itk row i).1);obtain ⟨x,hx⟩:=exq ((itk row i).2);rw [←hs] at t0 hy1 hy2 hy3 hy4;rw [←hx] at t1 hy2 hy3;have hx128:x<128:=by
       by_cases c:16≤s∧s≤18
       ·have h5:=hy2 c
        have h6:2^xb s≤2^7:=Nat.pow_le_pow_right (by omega) (zgX s);omega
       ·have:=hy3 c;omega
      have HSC:Hid (((zC row).take (i+1)).flatMap (qS own)=((zC row).take i).flatMap (qS own)++(cp own s::ext (s,x))):=J (by
       rw [i3,List.flatMap_append,List.flatMap_cons,List.flatMap_nil,List.append_nil,Ua,←hs];rw [show itk row i=(s,x) by rw [hs,hx]])
      have HY:=J (And.intro hy2 (And.intro hy3 hy4));obtain ⟨w5',hw5⟩:=exq (wr.alloc (.cells #[.int .i64 (s:Nat),.int .i64 (x:Nat)] 187));obtain ⟨q5,hq5⟩:=exq (wr.heap.size);have B5:Hid (Below wr.heap.size wr w5'):=J (by rw [hw5];exact (Below.refl _ _).alloc (Nat.le_refl _) _);have R5:Hid (Blk w5' q5 187 #[.int .i64 (s:Nat),.int .i64 (x:Nat)]):=J (by rw [hw5,hq5];exact Blk.made _ _ _);have W5:=J (Wk.out.grow B5.out);have C5:=J (HC.out.below B5.out);have K5:=J fun Q w6 (h:Pq w5' base pw gk Q w6)=>Kk.out Q w6 (Pq.back B5.out h)
      have s0:=(R5.out.cell 0).trans (show _=some (.int .i64 (s:Nat)) from rfl);clear i1 i2 i3 hs hx hlz hy2 hy3 hy4;go_upto_region 16 with fail
      rw [←hw5,←hq5];clear hw5 hq5 t0 t1;go_wp2_with fail
      refine (W5.out.sym (by omega) C5.out s HY.out.2.2).mono ?_;rintro e w6 ⟨rfl,hq⟩;obtain ⟨g6,hw6,hk6⟩:=hq.then;have W6:=J hw6;have C6:=J (C5.out.keep W5.out hq);have K6:=J fun Q w7 h=>K5.out Q w7 (hk6 Q w7 h)
      have R6:=J (zt.blk hq W5.out R5.out (by decide) (by decide));have hl15:ln own s≤15:=z6 HOK.out s;have hwd6:wid ((P4++((zC row).take i).flatMap (qS own))++[cp own s])≤1000020100:=by rw [zh];simp only [wid,cp];omega
      obtain ⟨bx,hbx⟩:=exq (xb s);obtain ⟨E,hE⟩:=exq (ext (s,x));have HBB:Hid (∀ W,Calls prog 134 #[.int .i64 (s:Nat)] W fun e w'=>e=.returned (.int .i64 (bx:Nat))∧w'=W):=J fun W=>by rw [hbx];exact UT s W
      have HPT:Hid (∀ W,Below w6.heap.size w6 W→Calls prog 70 #[.pointer (some ⟨pw,0,none⟩),.int .u32 (x:Nat),.int .i64 (bx:Nat)] W fun e w'=>e=.returned (.tuple #[])∧Pq w6 base pw g6 (((P4++((zC row).take i).flatMap (qS own))++[cp own s])++E) w'):=J fun W hW=>by
       rw [hbx,hE];exact (zjz (x:=(s,x)) (W6.out.grow hW) (by omega) HY.out.1 HY.out.2.1).mono fun _ _ k=>⟨k.1,Pq.back hW k.2⟩
      have HE:=J hE;have m0:=(R6.out.cell 0).trans (show _=some (.int .i64 (s:Nat)) from rfl);have m1':=(R6.out.cell 1).trans (show _=some (.int .i64 (x:Nat)) from rfl);clear hq hw6 hk6 s0 hwd6 hl15 hbx hE;go_wp2_with fail
      have AFQ:Hid (∀ W Q,Pq w6 base pw g6 Q W→W.cell? ⟨q5,0,none⟩=some (.int .i64 (s:Nat))∧W.cell? ⟨q5,1,none⟩=some (.int .i64 (x:Nat))):=J fun W Q hW=>⟨((zt.blk hW W6.out R6.out (by decide) (by decide)).cell 0).trans rfl,((zt.blk hW W6.out R6.out (by decide) (by decide)).cell 1).trans rfl⟩
      have AFD:Hid (w6.drew.cell? ⟨q5,0,none⟩=some (.int .i64 (s:Nat))∧w6.drew.cell? ⟨q5,1,none⟩=some (.int .i64 (x:Nat))):=J ⟨m0,m1'⟩;have hxw:IntKind.u32.wrap (x:Int)=(x:Int):=by rw [IntKind.wrap_u32];omega
      have HPD:=HPT.out _ (zf w6);rw [←hxw] at HPD;have HPD:=J HPD;have HBD:=J (HBB.out w6.drew);clear HPT HBB hxw;go_region_held3 (fun W=>W.cell? ⟨q5,0,none⟩=some (.int .i64 (s:Nat))∧W.cell? ⟨q5,1,none⟩=some (.int .i64 (x:Nat))) (first | assumption | exact AFD.out | go_keep) (first | (go_at_call 134;(with_reducible refine HBD.out.mono ?_);rintro e w7 ⟨rfl,rfl⟩) | (go_at_call 70;(with_reducible refine HPD.out.mono ?_);rintro e w8 ⟨rfl,hq⟩;have HQ8:=J (K6.out _ _ hq);have C8:=J (C6.out.keep W6.out hq);obtain ⟨l1,l0⟩:=AFQ.out w8 _ hq;clear hq))
      go_wp2;go_roundw;case rel=>
       refine ⟨i+1,by omega,by go_num,J ?_,C8⟩;have h9:=HQ8.out;rw [HE.out] at h9;rw [HSC.out,show P4++(((zC row).take i).flatMap (qS own)++(cp own s::ext (s,x)))=((P4++((zC row).take i).flatMap (qS own))++[cp own s])++ext (s,x) by simp];exact h9
      case measure=>simp [intOf];omega
     ·obtain rfl:i=L:=by omega
      go_wp2;go_end0;exact ⟨rfl,by rw [HA.out,←HP3.out,←HP4.out];exact Pq.back B2.out HX.out⟩
theorem zfB {row:List Nat}(h15:∀ x∈row,x≤15) (hl:row.length≤320) (h1:1≤row.length):0<(qA row).length:=by
 rw [←xQ];refine List.length_pos_iff.2 fun e=>?_
 have:=zbI h15 hl;rw [e] at this;have h2:=congrArg List.length (Option.some.inj this);rw [←h2] at h1;exact absurd h1 (by decide)
theorem head_size {w:World}{B:Nat}{row:List Nat}{g2 ic n1 n2:Nat}{ia:Option Addr}(hT:kD w) (hH:Hd B w row g2 ia)
  (h15:∀ x∈row,x≤15) (hl:row.length≤320) (hr1:1≤row.length) (h1:257≤n1∧n1≤288) (h2:1≤n2∧n2≤32) :
  Calls prog 90 #[hdV n1 n2 g2 ia (qA row).length ic] w fun e w'=>e=.returned (.int .i64 (wid (hdP n1 n2 row):Nat))∧Below w.heap.size w w':=by
 have hz:2≤w.heap.size:=World.block_lt_of_cell? w _ (hT 0 (by decide));obtain ⟨L,hL⟩:=exq ((qA row).length);obtain ⟨w1,hw1⟩:=exq (w.alloc (.cells #[.int .i64 n1,.int .i64 n2,.slice (some ⟨g2,0,none⟩) 19 19,.slice ia L ic] 145));have B1:Hid (Below w.heap.size w w1):=J (by rw [hw1];exact (Below.refl _ _).alloc (Nat.le_refl _) _);obtain ⟨q,hq⟩:=exq (w.heap.size);have R1:Hid (Blk w1 q 145 #[.int .i64 n1,.int .i64 n2,.slice (some ⟨g2,0,none⟩) 19 19,.slice ia L ic]):=J (by rw [hw1,hq];exact Blk.made _ _ _);have HT:=J (hT.grow B1.out);have HH:=J (hH.grow B1.out);have HLT:Hid (∀ b off,ia=some ⟨b,off,none⟩→b<w1.heap.size):=J fun b off e=>by
  obtain ⟨b',off',e',t0,_⟩:=Y.TS.at HH.out.its (zfB h15 hl hr1);rw [e] at e';cases e';exact World.block_lt_of_cell? w1 _ t0
 have HPUT:=J fun (pw:Nat) (w2:World) (hb:Below w1.heap.size w1 w2) (hw:Wq w2 w1.heap.size pw none [])=>Ut (ic:=ic) hw (Nat.zero_le _) (HT.out.grow hb) (Nat.le_trans hz B1.out.size) (HH.out.grow hb) (fun b off e hf=>by
  have h3:=HLT.out b off e;have h4:=(Wr.foot hw hf).1;omega) h15 hl h1 h2
 rw [←hL] at HPUT ⊢;unfold hdV at HPUT ⊢;obtain ⟨HP,hHP⟩:=exq (hdP n1 n2 row);rw [←hHP] at HPUT ⊢;clear hT hH h15 hl hr1 h1 h2 hL hHP;go_enter func90,ntmps90;go_upto_region 1 with fail
 rw [←hw1,←hq];clear hw1 hq;go_wp2_with fail
 refine (jV w1).mono ?_;rintro e w2 ⟨pw,rfl,hw,hb⟩;have W2:=J hw;have B2:=J hb;have R2:=J (R1.out.below hb);have s0:=(R2.out.cell 0).trans (show _=some (.int .i64 (n1:Nat)) from rfl);have s1:=(R2.out.cell 1).trans (show _=some (.int .i64 (n2:Nat)) from rfl);have s2:=(R2.out.cell 2).trans (show _=some (.slice (some ⟨g2,0,none⟩) 19 19) from rfl);have s3:=(R2.out.cell 3).trans (show _=some (.slice ia L ic) from rfl);have HQ:=J (HPUT.out pw w2 hb hw);clear hw hb HPUT;go_wp2_with fail
 refine HQ.out.mono ?_;rintro e w3 ⟨rfl,hq⟩;have B3:=J ((B1.out.on B2.out).trans ((zt.low hq W2.out).mono B1.out.size));obtain ⟨g3,hw3,_⟩:=hq.then;have HL:=J (Wr.len hw3);rw [List.nil_append] at HL;clear hq hw3 s0 s1 s2 s3;go_wp2_with fail
 refine HL.out.mono ?_;rintro e w4 ⟨rfl,rfl⟩;go_wp2;go_ret;exact ⟨rfl,B3.out⟩
def zmm (c1 c2:Nat):Value:=.agg #[.pointer (some ⟨c1,0,none⟩),.pointer (some ⟨c2,0,none⟩)]
def zbj (w:World) (r:List Tok) (e:Ending) (w':World):Prop:=∃ c1 c2 g ia ic,e=.returned (.tuple #[zmm c1 c2,hdV (flF r).length (olF r).length g ia (qA (qG r)).length ic])∧zg w' c1 (flF r)∧zg w' c2 (olF r)∧Hd w.heap.size w' (qG r) g ia∧Below w.heap.size w w'
theorem zmk {t:Array Value}{W:World}{q p:Nat}{x0 x1 y0 y1 y2 y3:Value}(h2:t[2]? = some (.pointer (some ⟨q,0,none⟩))) (h3:t[3]? = some (.pointer (some ⟨p,0,none⟩))) (h:Blk W q 89 #[x0,x1]) (k:Blk W p 145 #[y0,y1,y2,y3]):(results Tryz.f85 t).run prog W=.ok (.tuple #[.agg #[x0,x1],.agg #[y0,y1,y2,y3]]) W:=by
 have e0:=(h.cell 0).trans (show _=some x0 from rfl);have e1:=(h.cell 1).trans (show _=some x1 from rfl);have d0:=(k.cell 0).trans (show _=some y0 from rfl);have d1:=(k.cell 1).trans (show _=some y1 from rfl);have d2:=(k.cell 2).trans (show _=some y2 from rfl);have d3:=(k.cell 3).trans (show _=some y3 from rfl);simp [results,results85,h2,h3,go_sem,e0,e1,d0,d1,d2,d3]
theorem Hd.set {B:Nat}{w:World}{row:List Nat}{g q i:Nat}{ia:Option Addr}{u:Value}(h:Hd B w row g ia) (h1:q≠g) (h2:∀ b off,ia=some ⟨b,off,none⟩→q≠b):Hd B (w.setCell ⟨q,i,none⟩ u) row g ia:=⟨h.own.other i u h1,uw h.its h2,h.ge⟩
theorem Hd.less {B B':Nat}{w:World}{row:List Nat}{g:Nat}{ia:Option Addr}(h:Hd B w row g ia) (hb:B'≤B):Hd B' w row g ia:=⟨h.own,h.its,fun b off e=>Nat.le_trans hb (h.ge b off e)⟩
theorem zjS {W:World}{c q p:Nat}{ls:List Nat}{cs ds:Array Value}(h:zg W c ls) (h1:Blk W q 89 cs) (h2:Blk W p 145 ds) (hn:q≠p) (x0 x1 y0 y1 y2 y3:Value) :
  zg ((((((W.setCell ⟨q,0,none⟩ x0).setCell ⟨q,1,none⟩ x1).setCell ⟨p,0,none⟩ y0).setCell ⟨p,1,none⟩ y1).setCell ⟨p,2,none⟩ y2).setCell ⟨p,3,none⟩ y3) c ls:=by
 have b2:=(h2.other 0 x0 hn).other 1 x1 hn;have c2:=(h.set h1 (by decide) 0 x0).set (h1.setCell 0 x0) (by decide) 1 x1;exact (((c2.set b2 (by decide) 0 y0).set (b2.setCell 0 y0) (by decide) 1 y1).set ((b2.setCell 0 y0).setCell 1 y1) (by decide) 2 y2).set (((b2.setCell 0 y0).setCell 1 y1).setCell 2 y2) (by decide) 3 y3
set_option maxHeartbeats 1600000 in
theorem zgU (r:List Tok) (hr:r.length≤20000) (f1 f2 k1 k2:Nat) (w:World) (h1:Blk w f1 3 (va 286 fun y => .int .i64 ((cfL r).getD y 0:Nat))) (h2:Blk w f2 3 (va 30 fun y => .int .i64 ((coL r).getD y 0:Nat))) :
  Calls prog 85 #[.agg #[.slice (some ⟨f1,0,none⟩) 286 k1,.slice (some ⟨f2,0,none⟩) 30 k2]] w (zbj w r):=by
 have mF:∀ x∈cfL r,x≤100000:=fun x hx=>by
  obtain ⟨y,hy,rfl⟩:=List.mem_map.1 hx;have:=yV r y;split <;> omega
 have mO:∀ x∈coL r,x≤100000:=fun x hx=>by
  obtain ⟨y,hy,rfl⟩:=List.mem_map.1 hx;have:=QR r y;omega
 have i1:IS w (some ⟨f1,0,none⟩) (Y.ints (cfL r)):=by
  have:=kh (L:=cfL r) h1 286 (Nat.le_refl _) (qt r).symm;rwa [show (cfL r).take 286=cfL r by rw [←qt r,List.take_length]] at this
 have i2:IS w (some ⟨f2,0,none⟩) (Y.ints (coL r)):=by
  have:=kh (L:=coL r) h2 30 (Nat.le_refl _) (qx r).symm;rwa [show (coL r).take 30=coL r by rw [←qx r,List.take_length]] at this
 have HL1:=J fun (W:World) (hW:Below w.heap.size w W)=>uS 257 (cfL r) (some ⟨f1,0,none⟩) k1 286 W (i1.below hW) (qt r).symm (by rw [qt];omega) mF (by omega) (by omega)
 have HL2:=J fun (W:World) (hW:Below w.heap.size w W)=>uS 1 (coL r) (some ⟨f2,0,none⟩) k2 30 W (i2.below hW) (qx r).symm (by rw [qx];omega) mO (by omega) (by omega)
 have hfb:=uU r;have hob:=vV r;have hrb:=yp r;have h15:=kL r;have okF:=zbB r;have okO:=zaX r;rw [show (zT (cfL r) 15).take (trz 257 (zT (cfL r) 15) 286)=flF r from rfl] at HL1;rw [show (zT (coL r) 15).take (trz 1 (zT (coL r) 15) 30)=olF r from rfl] at HL2;unfold zbj;rw [show qG r=flF r++olF r from rfl] at hrb h15 ⊢;generalize flF r=fl at *;generalize olF r=ol at *;have HOK:=J (And.intro okF okO);have H15:=J h15;have HHD:=J fun (g1 g2 c1 c2:Nat) (W:World) (j1:IS W (some ⟨g1,0,none⟩) (Y.ints fl)) (j2:IS W (some ⟨g2,0,none⟩) (Y.ints ol))=>zhF fl ol g1 g2 c1 c2 fl.length ol.length W h15 (by omega) (by omega) (by omega) j1 j2 rfl rfl
 obtain ⟨w1,hw1⟩:=exq (((w.alloc (.cells #[.slice (some ⟨f1,0,none⟩) 286 k1,.slice (some ⟨f2,0,none⟩) 30 k2] 141)).alloc (.cells #[.pointer none,.pointer none] 89)).alloc (.cells #[.int .i64 0,.int .i64 0,.slice none 0 0,.slice none 0 0] 145));obtain ⟨q,hq⟩:=exq (w.heap.size);have B1:Hid (Below w.heap.size w w1):=J (by rw [hw1];exact (((Below.refl _ _).alloc (Nat.le_refl _) _).on ((Below.refl _ _).alloc (Nat.le_refl _) _)).on ((Below.refl _ _).alloc (Nat.le_refl _) _));have R1:Hid (Blk w1 q 141 #[.slice (some ⟨f1,0,none⟩) 286 k1,.slice (some ⟨f2,0,none⟩) 30 k2]∧Blk w1 (q+1) 89 #[.pointer none,.pointer none]∧Blk w1 (q+1+1) 145 #[.int .i64 0,.int .i64 0,.slice none 0 0,.slice none 0 0]):=J (by
  rw [hw1,hq];refine ⟨zcS _ _ _ _ _,zbU _ _ _ _ _,zbR _ _ _ _ _⟩)
 have hq0:w.heap.size≤q:=by omega
 have HSZ:Hid (q+1+1<w1.heap.size):=J R1.out.2.2.lt;clear mF mO i1 i2 h1 h2 hr okF okO h15 hfb hob hrb;go_enter func85,ntmps85;go_upto_region 1 with fail
 rw [←hw1,←hq];clear hw1 hq;have s0:=(R1.out.1.cell 0).trans (show _=some (.slice (some ⟨f1,0,none⟩) 286 k1) from rfl);go_wp2_with fail
 refine (HL1.out w1 B1.out).mono ?_;rintro e w2 ⟨g1,d1,rfl,hi,hb⟩;have I2:=J hi;have B2:=J hb;have s1:=((R1.out.1.below hb).cell 1).trans (show _=some (.slice (some ⟨f2,0,none⟩) 30 k2) from rfl);clear hi hb s0;go_wp2_with fail
 refine (HL2.out w2 (B1.out.on B2.out)).mono ?_;rintro e w3 ⟨g2,d2,rfl,hi,hb⟩;have I3:=J (I2.out.below hb);have J3:=J hi;have B3:=J (B2.out.on hb);clear hi hb s1 HL1 HL2 I2;go_wp2_with fail
 refine (zab fl ol HOK.out.1 HOK.out.2 (some ⟨g1,0,none⟩) (some ⟨g2,0,none⟩) d1 d2 fl.length ol.length w3 I3.out J3.out rfl rfl).mono ?_;rintro e w4 ⟨c1,c2,rfl,hc1,hc2,hb⟩;have C4:=J (And.intro hc1 hc2);have B4:=J (B3.out.on hb);have I4:=J (I3.out.below hb);have J4:=J (J3.out.below hb);clear hc1 hc2 hb I3 J3;go_wp2_with fail
 refine (HHD.out g1 g2 d1 d2 w4 I4.out J4.out).mono ?_;rintro e w5 ⟨g,ia,ic,rfl,hh,hb⟩;have B5:=J (B4.out.on hb);have H5:=J hh;have C5:=J (And.intro (C4.out.1.below hb) (C4.out.2.below hb));have R5:=J (And.intro (R1.out.2.1.below B5.out) (R1.out.2.2.below B5.out));have HSZ5:Hid (w1.heap.size≤w4.heap.size):=J B4.out.size;have HN:Hid (q+1≠g∧q+1+1≠g):=J ⟨qg R5.out.1 hh.own (by decide),qg R5.out.2 hh.own (by decide)⟩;have HI:Hid (∀ b off,ia=some ⟨b,off,none⟩→q+1≠b∧q+1+1≠b):=J fun b off e=>by
  have h3:=hh.ge b off e;have h4:=HSZ.out;have h5:=HSZ5.out;omega
 clear hh hb;have z0:=(R5.out.1.cell 0).trans (show _=some (.pointer none) from rfl);have z1:=(R5.out.1.cell 1).trans (show _=some (.pointer none) from rfl);have y0:=(R5.out.2.cell 0).trans (show _=some (.int .i64 0) from rfl);have y1:=(R5.out.2.cell 1).trans (show _=some (.int .i64 0) from rfl);have y2:=(R5.out.2.cell 2).trans (show _=some (.slice none 0 0) from rfl);have y3:=(R5.out.2.cell 3).trans (show _=some (.slice none 0 0) from rfl);have f0:=R5.out.1.free 0;have f1':=R5.out.1.free 1;have e0:=R5.out.2.free 0;have e1:=R5.out.2.free 1;have e2:=R5.out.2.free 2;have e3:=R5.out.2.free 3;unfold hdV;go_wp2;have h1:q+1+1≠q+1:=by omega
 have h2:q+1≠q+1+1:=by omega
 refine bodyPost_ret (zmk rfl rfl ((((((R5.out.1.setCell 0 _).setCell 1 _).other 0 _ h1).other 1 _ h1).other 2 _ h1).other 3 _ h1) ((((((R5.out.2.other 0 _ h2).other 1 _ h2).setCell 0 _).setCell 1 _).setCell 2 _).setCell 3 _)) rfl ⟨c1,c2,g,ia,ic,rfl,?_,?_,?_,zl3 (set2 (B1.out.on B5.out) (by omega) _ _) (by omega) _ _ _ _⟩
 ·exact zjS C5.out.1 R5.out.1 R5.out.2 h2 _ _ _ _ _ _
 ·exact zjS C5.out.2 R5.out.1 R5.out.2 h2 _ _ _ _ _ _
 ·have n1:=fun b off e=>(HI.out b off e).1
  have n2:=fun b off e=>(HI.out b off e).2
  exact ((((((H5.out.set HN.out.1 n1).set HN.out.1 n1).set HN.out.2 n2).set HN.out.2 n2).set HN.out.2 n2).set HN.out.2 n2).less (Nat.le_trans (Nat.le_trans (Nat.le_trans hq0 (by omega)) (Nat.le_of_lt HSZ.out)) HSZ5.out)
set_option maxRecDepth 100000 in
set_option maxHeartbeats 1600000 in
theorem zfi (p:Nat) (ls:List Nat) (ao:Option Addr) (c:Nat) (zs:List Int) (w:World) (h:zg w p ls) (hi:IS w ao zs) (hl:zs.length≤1000) :
  Calls prog 131 #[.pointer (some ⟨p,0,none⟩),.slice ao zs.length c] w fun e w'=>e=.returned (.int .i64 (cst ls zs (min zs.length ls.length):Nat))∧w=w':=by
 have HO:=J h.ok;have HI:=J hi;have hll:=h.ok.len;obtain ⟨gw,c0,hw⟩:=h.word;have HW:=J hw;clear h hi hw;by_cases hcmp:ls.length<zs.length
 ·rw [show min zs.length ls.length=ls.length by omega]
  have hcmp':decide (ls.length<zs.length)=true:=by simpa using hcmp
  go_enter func131,ntmps131;go_wp2;go_loop [5,16] (fun sv i=>∃ k:Nat,k≤ls.length∧i=.int .i64 k∧sv=.int .i64 (cst ls zs k:Nat)) (fun _ i=>ls.length-(intOf i).toNat)
  case atStart=>exact ⟨0,Nat.zero_le _,rfl,rfl⟩
  case round=>
   obtain ⟨k,hk,rfl,rfl⟩:=hrel;by_cases hlt:k<ls.length
   ·have hk1:k<ls.length:=by omega
    have hk2:k<zs.length:=by omega
    have hkk1:(k:Int)<ls.length:=by omega
    have hkk2:(k:Int)<zs.length:=by omega
    obtain ⟨b,off,rfl,hcell⟩:=HI.out.at hk2;obtain ⟨_,_,c2⟩:=HW.out k hk1;obtain ⟨x,hx⟩:=exq (zs.getD k 0);obtain ⟨n,hn⟩:=exq (ln ls k);rw [←hx] at hcell;rw [←hn] at c2;have HX:=J hx;have HN:=J hn;clear hx hn;by_cases h0:0<x
    ·by_cases h1:x≤1099511627776
     ·have HS:=J (zcG HO.out (zs:=zs) (k:=k) (by omega) (by rw [←HX.out];exact h0) (by rw [←HX.out];exact h1) x n HX.out HN.out)
      have d1:decide (x≤1099511627776)=true:=by simpa using h1
      clear h1;go_wp2;go_round
      case rel=>exact ⟨k+1,by omega,by go_num,by rw [←HS.out]⟩
      case measure=>simp [intOf];omega
     ·have HS:Hid (cst ls zs (k+1)=cst ls zs k):=J (by rw [cst,if_neg (by rw [←HX.out];exact fun h=>h1 h.2)];rfl)
      have d1:decide (x≤1099511627776)=false:=by simpa using h1
      clear h1;go_wp2;go_round
      case rel=>exact ⟨k+1,by omega,by go_num,by rw [HS.out]⟩
      case measure=>simp [intOf];omega
    ·have HS:Hid (cst ls zs (k+1)=cst ls zs k):=J (by rw [cst,if_neg (by rw [←HX.out];exact fun h=>h0 h.1)];rfl)
     go_wp2;go_round
     case rel=>exact ⟨k+1,by omega,by go_num,by rw [HS.out]⟩
     case measure=>simp [intOf];omega
   ·have hk':k=ls.length:=by omega
    subst hk';go_wp2;go_ret;exact ⟨rfl,rfl⟩
 ·rw [show min zs.length ls.length=zs.length by omega]
  have hcmp':decide (ls.length<zs.length)=false:=by simpa using hcmp
  go_enter func131,ntmps131;go_wp2;go_loop [5,16] (fun sv i=>∃ k:Nat,k≤zs.length∧i=.int .i64 k∧sv=.int .i64 (cst ls zs k:Nat)) (fun _ i=>zs.length-(intOf i).toNat)
  case atStart=>exact ⟨0,Nat.zero_le _,rfl,rfl⟩
  case round=>
   obtain ⟨k,hk,rfl,rfl⟩:=hrel;by_cases hlt:k<zs.length
   ·have hk1:k<ls.length:=by omega
    have hk2:k<zs.length:=by omega
    have hkk1:(k:Int)<ls.length:=by omega
    have hkk2:(k:Int)<zs.length:=by omega
    obtain ⟨b,off,rfl,hcell⟩:=HI.out.at hk2;obtain ⟨_,_,c2⟩:=HW.out k hk1;obtain ⟨x,hx⟩:=exq (zs.getD k 0);obtain ⟨n,hn⟩:=exq (ln ls k);rw [←hx] at hcell;rw [←hn] at c2;have HX:=J hx;have HN:=J hn;clear hx hn;by_cases h0:0<x
    ·by_cases h1:x≤1099511627776
     ·have HS:=J (zcG HO.out (zs:=zs) (k:=k) (by omega) (by rw [←HX.out];exact h0) (by rw [←HX.out];exact h1) x n HX.out HN.out)
      have d1:decide (x≤1099511627776)=true:=by simpa using h1
      clear h1;go_wp2;go_round
      case rel=>exact ⟨k+1,by omega,by go_num,by rw [←HS.out]⟩
      case measure=>simp [intOf];omega
     ·have HS:Hid (cst ls zs (k+1)=cst ls zs k):=J (by rw [cst,if_neg (by rw [←HX.out];exact fun h=>h1 h.2)];rfl)
      have d1:decide (x≤1099511627776)=false:=by simpa using h1
      clear h1;go_wp2;go_round
      case rel=>exact ⟨k+1,by omega,by go_num,by rw [HS.out]⟩
      case measure=>simp [intOf];omega
    ·have HS:Hid (cst ls zs (k+1)=cst ls zs k):=J (by rw [cst,if_neg (by rw [←HX.out];exact fun h=>h0 h.1)];rfl)
     go_wp2;go_round
     case rel=>exact ⟨k+1,by omega,by go_num,by rw [HS.out]⟩
     case measure=>simp [intOf];omega
   ·have hk':k=zs.length:=by omega
    subst hk';go_wp2;go_ret;exact ⟨rfl,rfl⟩
theorem zkU {ls ns:List Nat}(h:∀ x∈ns,x≤1099511627776) (k:Nat):cst ls (Y.ints ns) k=xx ns ls k:=by
 induction k with
 | zero=>rfl
 | succ k ih=>
  rw [cst,ih];unfold xx;rw [Y.zv,Y.ints_at];congr 1
  have hk:ns.getD k 0≤1099511627776:=by
   rcases Nat.lt_or_ge k ns.length with e | e
   ·rw [List.getD_eq_getElem?_getD,List.getElem?_eq_getElem e];exact h _ (List.getElem_mem e)
   ·rw [List.getD_eq_getElem?_getD,List.getElem?_eq_none e];decide
  by_cases h0:ns.getD k 0=0
  ·rw [if_neg (by omega),h0,Nat.zero_mul]
  ·rw [if_pos ⟨by omega,by omega⟩,Int.toNat_natCast]
theorem zdZ (ns ls:List Nat){k m:Nat}(hk:min ns.length ls.length≤k) (hkm:k≤m):xx ns ls m=xx ns ls k:=by
 induction m with
 | zero=>
      obtain rfl:k=0:=by omega
      rfl
 | succ m ih=>
  by_cases e:k=m+1
  ·rw [e]
  ·rw [←ih (by omega)]
   unfold xx;rw [Y.zv];have:ns.getD m 0*ln ls m=0:=by
    by_cases h1:ns.length≤m
    ·rw [List.getD_eq_getElem?_getD,List.getElem?_eq_none h1];exact Nat.zero_mul _
    ·unfold ln
     have h2:ls.getD m 0=0:=by rw [List.getD_eq_getElem?_getD,List.getElem?_eq_none (by omega)];rfl
     rw [h2,Nat.mul_zero]
   omega
theorem U1 (p:Nat) (ls:List Nat) (ao:Option Addr) (c n:Nat) (ns:List Nat) (w:World) (h:zg w p ls) (hi:IS w ao (Y.ints ns)) (hl:ns.length≤1000) (hM:∀ x∈ns,x≤1099511627776) (hn:n=ns.length) :
  Calls prog 131 #[.pointer (some ⟨p,0,none⟩),.slice ao n c] w fun e w'=>e=.returned (.int .i64 (xx ns ls ns.length:Nat))∧w=w':=by
 subst hn;have:=zfi p ls ao c (Y.ints ns) w h hi (by rw [Y.zj];exact hl);rw [Y.zj,zkU hM] at this;rwa [←zdZ ns ls (Nat.le_refl _) (show min ns.length ls.length≤ns.length from Nat.min_le_left _ _)] at this
set_option maxHeartbeats 1600000 in
theorem KG (c1 c2:Nat) (fl ol nf no:List Nat) (a1 a2:Option Addr) (k1 k2:Nat) (w:World) (h1:zg w c1 fl) (h2:zg w c2 ol) (i1:IS w a1 (Y.ints nf)) (i2:IS w a2 (Y.ints no)) (l1:nf.length=286) (l2:no.length=30) (m1:∀ x∈nf,x≤100000) (m2:∀ x∈no,x≤100000) :
  Calls prog 88 #[.agg #[.pointer (some ⟨c1,0,none⟩),.pointer (some ⟨c2,0,none⟩)],.agg #[.slice a1 286 k1,.slice a2 30 k2]] w fun e w'=>e=.returned (.int .i64 (xx nf fl 286+xx no ol 30:Nat))∧Below w.heap.size w w':=by
 obtain ⟨w1,hw1⟩:=exq ((w.alloc (.cells #[.pointer (some ⟨c1,0,none⟩),.pointer (some ⟨c2,0,none⟩)] 89)).alloc (.cells #[.slice a1 286 k1,.slice a2 30 k2] 141));obtain ⟨q,hq⟩:=exq (w.heap.size);have B1:Hid (Below w.heap.size w w1):=J (by rw [hw1];exact ((Below.refl _ _).alloc (Nat.le_refl _) _).on ((Below.refl _ _).alloc (Nat.le_refl _) _));have R1:Hid (Blk w1 q 89 #[.pointer (some ⟨c1,0,none⟩),.pointer (some ⟨c2,0,none⟩)]∧Blk w1 (q+1) 141 #[.slice a1 286 k1,.slice a2 30 k2]):=J (by
  rw [hw1,hq];refine ⟨(Blk.made _ _ _).more _,?_⟩;have:=Blk.made (w.alloc (.cells #[.pointer (some ⟨c1,0,none⟩),.pointer (some ⟨c2,0,none⟩)] 89)) 141 #[.slice a1 286 k1,.slice a2 30 k2];rwa [qR] at this)
 obtain ⟨x,hx⟩:=exq (xx nf fl 286);obtain ⟨y,hy⟩:=exq (xx no ol 30);have bnd_:∀ (ns ls:List Nat),Ok ls→(∀ z∈ns,z≤100000)→∀ k,xx ns ls k≤k*1500000:=fun ns ls H hm k=>by
  induction k with
  | zero=>exact Nat.zero_le _
  | succ k ih=>
   unfold xx at *;rw [Y.zv,Nat.add_mul,Nat.one_mul];refine Nat.add_le_add ih ?_;have a:ns.getD k 0≤100000:=by
    rcases Nat.lt_or_ge k ns.length with e | e
    ·rw [List.getD_eq_getElem?_getD,List.getElem?_eq_getElem e];exact hm _ (List.getElem_mem e)
    ·rw [List.getD_eq_getElem?_getD,List.getElem?_eq_none e];decide
   exact Nat.mul_le_mul a (z6 H k)
 have hx9:x≤500000000:=by have:=bnd_ nf fl h1.ok m1 286;omega
 have hy9:y≤50000000:=by have:=bnd_ no ol h2.ok m2 30;omega
 have HC1:Hid (∀ W,Below w1.heap.size w1 W→Calls prog 131 #[.pointer (some ⟨c1,0,none⟩),.slice a1 286 k1] W fun e w'=>e=.returned (.int .i64 (x:Nat))∧W=w'):=J fun W hW=>by
  have:=U1 c1 fl a1 k1 286 nf W (h1.below (B1.out.on hW)) (Y.IS.below (zaY.2 i1) (B1.out.on hW)) (by omega) (fun z hz=>by have:=m1 z hz;omega) l1.symm;rw [l1,←hx] at this;exact this
 have HC2:Hid (∀ W,Below w1.heap.size w1 W→Calls prog 131 #[.pointer (some ⟨c2,0,none⟩),.slice a2 30 k2] W fun e w'=>e=.returned (.int .i64 (y:Nat))∧W=w'):=J fun W hW=>by
  have:=U1 c2 ol a2 k2 30 no W (h2.below (B1.out.on hW)) (Y.IS.below (zaY.2 i2) (B1.out.on hW)) (by omega) (fun z hz=>by have:=m2 z hz;omega) l2.symm;rw [l2,←hy] at this;exact this
 have s0:=(R1.out.1.cell 0).trans (show _=some (.pointer (some ⟨c1,0,none⟩)) from rfl);have s1:=(R1.out.1.cell 1).trans (show _=some (.pointer (some ⟨c2,0,none⟩)) from rfl);have s2:=(R1.out.2.cell 0).trans (show _=some (.slice a1 286 k1) from rfl);have s3:=(R1.out.2.cell 1).trans (show _=some (.slice a2 30 k2) from rfl);rw [←hx,←hy];clear h1 h2 i1 i2 l1 l2 m1 m2 hx hy bnd_;have hxy:IntKind.i64.wrap ((x:Int)+y)=((x+y:Nat):Int):=by rw [IntKind.wrap_i64];omega
 have HD1:=J (HC1.out _ (zf w1));have HD2:=J (HC2.out _ (zf w1));clear HC1 HC2;go_enter func88,ntmps88;go_upto_region 1 with fail
 rw [←hw1,←hq];clear hw1 hq;go_region_held3 (fun W=>W.cell? ⟨q,0,none⟩=some (.pointer (some ⟨c1,0,none⟩))∧W.cell? ⟨q,1,none⟩=some (.pointer (some ⟨c2,0,none⟩))∧W.cell? ⟨q+1,0,none⟩=some (.slice a1 286 k1)∧W.cell? ⟨q+1,1,none⟩=some (.slice a2 30 k2)) (first | assumption | go_keep) (first | (go_at_call 131;(with_reducible refine HD1.out.mono ?_);rintro e w3 ⟨rfl,rfl⟩) | (go_at_call 131;(with_reducible refine HD2.out.mono ?_);rintro e w3 ⟨rfl,rfl⟩))
 all_goals
  go_wp2;go_ret;exact ⟨rfl,B1.out.on (zf w1)⟩
set_option maxHeartbeats 1600000 in
theorem zbz {w:World}{pk pw lb db lc dc:Nat}(hk:PkA w pk pw lb db lc dc) (nf no:List Nat) (a1 a2:Option Addr) (k1 k2:Nat) (i1:IS w a1 (Y.ints nf)) (i2:IS w a2 (Y.ints no)) (l1:nf.length=286) (l2:no.length=30) (m1:∀ x∈nf,x≤100000) (m2:∀ x∈no,x≤100000) :
  Calls prog 89 #[.pointer (some ⟨pk,0,none⟩),.agg #[.slice a1 286 k1,.slice a2 30 k2]] w fun e w'=>e=.returned (.int .i64 (k9 nf 29+yd no 30:Nat))∧Below w.heap.size w w':=by
 have am:∀ (ns:List Nat),(∀ z∈ns,z≤100000)→∀ k,ns.getD k 0≤100000:=fun ns hm k=>by
  rcases Nat.lt_or_ge k ns.length with e | e
  ·rw [List.getD_eq_getElem?_getD,List.getElem?_eq_getElem e];exact hm _ (List.getElem_mem e)
  ·rw [List.getD_eq_getElem?_getD,List.getElem?_eq_none e];decide
 have M1:=J (am nf m1);have M2:=J (am no m2);have X1:Hid (∀ k,k≤29→k9 nf k≤k*1300000):=J fun k=>by
  induction k with
  | zero=>intro _;exact Nat.zero_le _
  | succ k ih=>
   intro hk;unfold k9 at *;rw [Y.zv,Nat.add_mul,Nat.one_mul];exact Nat.add_le_add (ih (by omega)) (Nat.mul_le_mul (M1.out _) (Jr k (by omega)))
 have X2:Hid (∀ k,k≤30→yd no k≤k*1300000):=J fun k=>by
  induction k with
  | zero=>intro _;exact Nat.zero_le _
  | succ k ih=>
   intro hk;unfold yd at *;rw [Y.zv,Nat.add_mul,Nat.one_mul];exact Nat.add_le_add (ih (by omega)) (Nat.mul_le_mul (M2.out _) (vN k (by omega)))
 have HK:=J hk;have HI1:=J i1;have HI2:=J i2;have HL1:=J l1;have HL2:=J l2;obtain ⟨w1,hw1⟩:=exq (w.alloc (.cells #[.slice a1 286 k1,.slice a2 30 k2] 141));obtain ⟨q,hq⟩:=exq (w.heap.size);have B1:Hid (Below w.heap.size w w1):=J (by rw [hw1];exact (Below.refl _ _).alloc (Nat.le_refl _) _);have R1:Hid (Blk w1 q 141 #[.slice a1 286 k1,.slice a2 30 k2]):=J (by rw [hw1,hq];exact Blk.made _ _ _);have P1:=J (HK.out.grow B1.out);have k1':=P1.out.cells.2.1;clear hk i1 i2 l1 l2 m1 m2 am;go_enter func89,ntmps89;go_upto_region 1 with fail
 rw [←hw1,←hq];clear hw1 hq;go_wp2_with fail
 go_loopw [5,15] (fun v5 v15 wr=>∃ (k:Nat),k≤29∧v5=.int .i64 (k9 nf k:Nat)∧v15=.int .i64 (k:Nat)∧Hid (Below w1.heap.size w1 wr)) (fun _ v15 _=>29-(intOf v15).toNat)
 case atStart=>exact ⟨0,Nat.zero_le _,rfl,rfl,J (Below.refl _ _)⟩
 case round=>
  obtain ⟨k,hk,rfl,rfl,HB⟩:=hrel;by_cases hlt:k<29
  ·have hlt':(k:Int)<29:=by omega
   obtain ⟨r0,r1,r2⟩:=(P1.out.len.grow HB.out).at hlt;obtain ⟨x,hx⟩:=exq (LXs.getD k 0);obtain ⟨y,hy⟩:=exq (LBs.getD k 0);obtain ⟨s,hs⟩:=exq (257+k);obtain ⟨n,hn⟩:=exq (nf.getD s 0);have hx13:x≤13:=by rw [hx];exact Jr k hlt
   have hn5:n≤100000:=by rw [hn];exact M1.out s
   have HSUM:Hid (k9 nf (k+1)=k9 nf k+n*x):=J (by unfold k9;rw [Y.zv,hn,hs,hx]);rw [←hs] at r0;rw [←hy] at r1;rw [←hx] at r2;obtain ⟨w2,hw2⟩:=exq (wr.alloc (.cells #[.int .i64 (s:Nat),.int .i64 (y:Nat),.int .i64 (x:Nat)] 174));obtain ⟨q2,hq2⟩:=exq (wr.heap.size);have B2:Hid (Below wr.heap.size wr w2):=J (by rw [hw2];exact (Below.refl _ _).alloc (Nat.le_refl _) _);have R2:Hid (Blk w2 q2 174 #[.int .i64 (s:Nat),.int .i64 (y:Nat),.int .i64 (x:Nat)]):=J (by rw [hw2,hq2];exact Blk.made _ _ _);have hsl:s<286:=by omega
   have hsl':(s:Int)<286:=by omega
   obtain ⟨v,hv⟩:=exq (k9 nf k);have hv9:v≤40000000:=by have:=X1.out k hk;omega
   have hnx:n*x≤1300000:=Nat.mul_le_mul hn5 hx13;obtain ⟨m,hm⟩:=exq (n*x);have em:(n:Int)*x=(m:Int):=by rw [hm,Int.natCast_mul]
   have em2:IntKind.i64.wrap (m:Int)=(m:Int):=by rw [IntKind.wrap_i64];omega
   have ev2:IntKind.i64.wrap ((v:Int)+m)=((v+m:Nat):Int):=by rw [IntKind.wrap_i64];omega
   rw [←hv,←hm] at HSUM;rw [←hv];have HN:=J (show IS w2 a1 (Y.ints nf) from Y.IS.below (zaY.2 HI1.out) ((B1.out.on HB.out).on B2.out));obtain ⟨b,off,rfl,hcell⟩:=HN.out.at (show s<(Y.ints nf).length by rw [Y.zj,HL1.out];exact hsl);rw [Y.ints_at,←hn] at hcell;have R12:=J ((R1.out.below HB.out).below B2.out);have f0:=(R12.out.cell 0).trans (show _=some (.slice _ 286 k1) from rfl);have g0:=(R2.out.cell 0).trans (show _=some (.int .i64 (s:Nat)) from rfl);have g2:=(R2.out.cell 2).trans (show _=some (.int .i64 (x:Nat)) from rfl);clear hx hy hs hn hv hm hnx;go_upto_region 5 with fail
   rw [←hw2,←hq2];clear hw2 hq2 r0 r1 r2;have BA:=J (fun n=>(HB.out.on B2.out).on (below_drewN (Below.refl w2.heap.size w2) n));go_quiet (fail)
   go_wp2;go_roundw;case rel=>exact ⟨k+1,by omega,by rw [HSUM.out,Int.natCast_add],by go_num,J (BA.out _)⟩
   case measure=>simp [intOf];omega
  ·obtain rfl:k=29:=by omega
   have P2:=J (P1.out.grow HB.out);have k2':=P2.out.cells.2.2;obtain ⟨v0,hv0⟩:=exq (k9 nf 29);have hv09:v0≤40000000:=by have:=X1.out 29 (by omega);omega
   rw [←hv0];have HV0:=J hv0;clear hv0 k1';go_wp2_with fail
   go_loopw [5,36] (fun v5 v36 wr=>∃ (k:Nat),k≤30∧v5=.int .i64 (v0+yd no k:Nat)∧v36=.int .i64 (k:Nat)∧Hid (Below w1.heap.size w1 wr)) (fun _ v36 _=>30-(intOf v36).toNat)
   case atStart=>exact ⟨0,Nat.zero_le _,by unfold yd;rw [Y.xj,Nat.add_zero],rfl,HB⟩
   case round=>
    obtain ⟨k,hk,rfl,rfl,HB⟩:=hrel;by_cases hlt:k<30
    ·have hlt':(k:Int)<30:=by omega
     obtain ⟨r0,r1,r2⟩:=(P1.out.dis.grow HB.out).at hlt;obtain ⟨x,hx⟩:=exq (DXs.getD k 0);obtain ⟨y,hy⟩:=exq (DBs.getD k 0);obtain ⟨s,hs⟩:=exq (0+k);obtain ⟨n,hn⟩:=exq (no.getD s 0);have hx13:x≤13:=by rw [hx];exact vN k hlt
     have hn5:n≤100000:=by rw [hn];exact M2.out s
     have HSUM:Hid (v0+yd no (k+1)=v0+yd no k+n*x):=J (by unfold yd;rw [Y.zv,hn,hs,hx,Nat.zero_add];omega);rw [←hs] at r0;rw [←hy] at r1;rw [←hx] at r2;obtain ⟨w2,hw2⟩:=exq (wr.alloc (.cells #[.int .i64 (s:Nat),.int .i64 (y:Nat),.int .i64 (x:Nat)] 174));obtain ⟨q2,hq2⟩:=exq (wr.heap.size);have B2:Hid (Below wr.heap.size wr w2):=J (by rw [hw2];exact (Below.refl _ _).alloc (Nat.le_refl _) _);have R2:Hid (Blk w2 q2 174 #[.int .i64 (s:Nat),.int .i64 (y:Nat),.int .i64 (x:Nat)]):=J (by rw [hw2,hq2];exact Blk.made _ _ _);have hsl:s<30:=by omega
     have hsl':(s:Int)<30:=by omega
     obtain ⟨v,hv⟩:=exq (v0+yd no k);have hv9:v≤80000000:=by have:=X2.out k hk;omega
     have hnx:n*x≤1300000:=Nat.mul_le_mul hn5 hx13;obtain ⟨m,hm⟩:=exq (n*x);have em:(n:Int)*x=(m:Int):=by rw [hm,Int.natCast_mul]
     have em2:IntKind.i64.wrap (m:Int)=(m:Int):=by rw [IntKind.wrap_i64];omega
     have ev2:IntKind.i64.wrap ((v:Int)+m)=((v+m:Nat):Int):=by rw [IntKind.wrap_i64];omega
     rw [←hv,←hm] at HSUM;rw [←hv];have HN:=J (show IS w2 a2 (Y.ints no) from Y.IS.below (zaY.2 HI2.out) ((B1.out.on HB.out).on B2.out));obtain ⟨b,off,rfl,hcell⟩:=HN.out.at (show s<(Y.ints no).length by rw [Y.zj,HL2.out];exact hsl);rw [Y.ints_at,←hn] at hcell;have R12:=J ((R1.out.below HB.out).below B2.out);have f0:=(R12.out.cell 1).trans (show _=some (.slice _ 30 k2) from rfl);have g0:=(R2.out.cell 0).trans (show _=some (.int .i64 (s:Nat)) from rfl);have g2:=(R2.out.cell 2).trans (show _=some (.int .i64 (x:Nat)) from rfl);clear hx hy hs hn hv hm hnx;go_upto_region 10 with fail
     rw [←hw2,←hq2];clear hw2 hq2 r0 r1 r2;have BA:=J (fun n=>(HB.out.on B2.out).on (below_drewN (Below.refl w2.heap.size w2) n));go_quiet (fail)
     go_wp2;go_roundw;case rel=>exact ⟨k+1,by omega,by rw [HSUM.out,Int.natCast_add],by go_num,J (BA.out _)⟩
     case measure=>simp [intOf];omega
    ·obtain rfl:k=30:=by omega
     have HB2:=J (B1.out.on HB.out);go_wp2;go_ret;exact ⟨by rw [←HV0.out];rfl,HB2.out⟩
end
end Go.Proofs.YtacpfpghokcdlaaGreatDoor
