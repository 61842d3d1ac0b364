/- Part 28. -/
import Derived.Shelf.Slices.Clone
import Derived.Shelf.Slices.CompactI
import Derived.Shelf.SlicesE.DeleteFunc
import Derived.Shelf.Sort.Plain
import Derived.Test.YtacpfpghokcdlaaGreatDoorXB27
open Go.Proofs.Tryz
namespace Go.Proofs.YtacpfpghokcdlaaGreatDoor
set_option maxRecDepth 100000
section
open Go.Lib renaming hid → J
open Go.RowKit
theorem vr {ns ls:List Nat}(H:Ok ls) (hm:∀ z∈ns,z≤100000) (k:Nat):xx ns ls k≤k*1500000:=by
 induction k with
 | zero=>exact Nat.zero_le _
 | succ k ih=>
  unfold xx at *;rw [Y.zv,Nat.add_mul,Nat.one_mul];refine Nat.add_le_add ih ?_;have a:ns.getD k 0≤100000:=by
   rcases Nat.lt_or_ge k ns.length with e | e
   ·rw [List.getD_eq_getElem?_getD,List.getElem?_eq_getElem e];exact hm _ (List.getElem_mem e)
   ·rw [List.getD_eq_getElem?_getD,List.getElem?_eq_none e];decide
  exact Nat.mul_le_mul a (z6 H k)
theorem zh0 {r:List Tok}(hm:∀ k,(cfL r).getD k 0≤100000) (hm2:∀ k,(coL r).getD k 0≤100000):xtr r≤59*1300000:=by
 have X1:∀ k,k≤29→k9 (cfL r) k≤k*1300000:=fun k=>by
  induction k with
  | zero=>intro _;exact Nat.zero_le _
  | succ k ih=>
   intro hk;unfold k9 at *;rw [Y.zv,Nat.add_mul,Nat.one_mul];exact Nat.add_le_add (ih (by omega)) (Nat.mul_le_mul (hm _) (Jr k (by omega)))
 have X2:∀ k,k≤30→yd (coL r) k≤k*1300000:=fun k=>by
  induction k with
  | zero=>intro _;exact Nat.zero_le _
  | succ k ih=>
   intro hk;unfold yd at *;rw [Y.zv,Nat.add_mul,Nat.one_mul];exact Nat.add_le_add (ih (by omega)) (Nat.mul_le_mul (hm2 _) (vN k (by omega)))
 have:=X1 29 (by omega);have:=X2 30 (by omega);unfold xtr;omega
theorem zh2 {r:List Tok}(hr:r.length≤20000):(∀ x∈cfL r,x≤100000)∧(∀ x∈coL r,x≤100000):=by
 refine ⟨fun x hx=>?_,fun x hx=>?_⟩
 ·obtain ⟨y,hy,rfl⟩:=List.mem_map.1 hx
  have:=yV r y;split <;> omega
 ·obtain ⟨y,hy,rfl⟩:=List.mem_map.1 hx
  have:=QR r y;omega
theorem zb6 {l:List Nat}(h:∀ x∈l,x≤100000) (k:Nat):l.getD k 0≤100000:=by
 rcases Nat.lt_or_ge k l.length with e | e
 ·rw [List.getD_eq_getElem?_getD,List.getElem?_eq_getElem e];exact h _ (List.getElem_mem e)
 ·rw [List.getD_eq_getElem?_getD,List.getElem?_eq_none e];decide
theorem zfc {w:World}{base pw pk:Nat}{g:Option Nat}{P:List (Nat × Nat)}(h:Wq w base pw g P) (ho:PkO w pk pw) (hn:wid P≤1000000000) (last:Bool){v:Value}{bs:List Nat}(hs:zi w v bs) (hlo:0<bs.length→∀ k,v.ownBlock=some k→k<base) (hb:Bs bs) (hl:bs.length≤300000) :
  Calls prog 48 #[.pointer (some ⟨pk,0,none⟩),v,.bool last] w fun e w'=>e=.returned (.tuple #[])∧Pq w base pw g (P++xg (wid P) bs last) w':=by
 by_cases h0:0<bs.length
 ·exact zci h ho hn last hs (hlo h0) hb hl
 ·obtain rfl:bs=[]:=List.eq_nil_of_length_eq_zero (by omega)
  rcases hs with ⟨rfl,_⟩ | ⟨ad,c,rfl,hc,hcell⟩
  ·exact yF none 0 (fun _=>rfl) h ho hn last
  ·exact yF (some ad) c (fun h=>by cases h) h ho hn last
theorem Pq.thenF {w w1:World}{base p:Nat}{g:Option Nat}{P:List (Nat × Nat)}(h:Pq w base p g P w1):∃ g1,Wq w1 base p g1 P∧(∀ b,b<w.heap.size→¬xG p g b→¬xG p g1 b)∧∀ (Q:List (Nat × Nat)) (w2:World),Pq w1 base p g1 Q w2→Pq w base p g Q w2:=by
 obtain ⟨g1,h1,h2,h3⟩:=h;refine ⟨g1,h1,fun b hb hn hf=>?_,fun Q w2 k=>?_⟩
 ·rcases hf with hf | hf
  ·exact hn (.inl hf)
  ·rcases h3 b hf with h | h
   ·exact hn (.inr h)
   ·omega
 ·obtain ⟨g2,k1,k2,k3⟩:=k
  refine ⟨g2,k1,h2.trans' k2 ?_,fun k hk=>?_⟩
  ·intro i hi hlt
   rcases hi with rfl | hi
   ·exact .inl rfl
   ·rcases h3 i hi with h | h
    ·exact .inr h
    ·omega
  ·rcases k3 k hk with h | h
   ·exact h3 k h
   ·exact .inr (Nat.le_trans h2.size h)
structure Bkx (w:World) (base pw pk lb db lc dc c1 c2:Nat) (g:Option Nat) (P:List (Nat × Nat)) (ao:Option Addr) (r:List Tok) (v:Value) (b fl ol row:List Nat) (q8 q9 q10 f1 f2 d1 d2 g2 ic:Nat) (ia:Option Addr) (W:World):Prop where
 wq:Wq W base pw g P
 fpk:PkX W pk pw lb db lc dc c1 c2
 ft:kD W
 fr_:V.KS W ao r
 fs_:zi W v b
 o8:Blk W q8 141 #[.slice (some ⟨f1,0,none⟩) 286 286,.slice (some ⟨f2,0,none⟩) 30 30]
 o9:Blk W q9 89 #[.pointer (some ⟨d1,0,none⟩),.pointer (some ⟨d2,0,none⟩)]
 o10:Blk W q10 145 #[.int .i64 fl.length,.int .i64 ol.length,.slice (some ⟨g2,0,none⟩) 19 19,.slice ia (qA row).length ic]
 n1:Blk W f1 3 (va 286 fun y => .int .i64 ((cfL r).getD y 0:Nat))
 n2:Blk W f2 3 (va 30 fun y => .int .i64 ((coL r).getD y 0:Nat))
 x1:zg W d1 fl
 x2:zg W d2 ol
 hd:Hd w.heap.size W row g2 ia
 fb_:Below w.heap.size w W
section
variable {w:World}{base pw pk lb db lc dc c1 c2:Nat}{g:Option Nat}{P:List (Nat × Nat)}{ao:Option Addr}{r:List Tok}{v:Value}{b fl ol row:List Nat}{q8 q9 q10 f1 f2 d1 d2 g2 ic:Nat}{ia:Option Addr}{W W':World}
theorem Bkx.grow (h:Bkx w base pw pk lb db lc dc c1 c2 g P ao r v b fl ol row q8 q9 q10 f1 f2 d1 d2 g2 ic ia W) (hb:Below W.heap.size W W'):Bkx w base pw pk lb db lc dc c1 c2 g P ao r v b fl ol row q8 q9 q10 f1 f2 d1 d2 g2 ic ia W':=
 ⟨h.wq.grow hb,h.fpk.grow hb,h.ft.grow hb,V.KS.on h.fr_ hb,zi.grow h.fs_ hb,h.o8.below hb,h.o9.below hb,h.o10.below hb,h.n1.below hb,h.n2.below hb,h.x1.below hb,h.x2.below hb,h.hd.grow hb,h.fb_.on hb⟩
theorem Bkx.is1 (h:Bkx w base pw pk lb db lc dc c1 c2 g P ao r v b fl ol row q8 q9 q10 f1 f2 d1 d2 g2 ic ia W):IS W (some ⟨f1,0,none⟩) (Y.ints (cfL r)):=by
 have:=kh (L:=cfL r) h.n1 286 (Nat.le_refl _) (qt r).symm;rwa [show (cfL r).take 286=cfL r by rw [←qt r,List.take_length]] at this
theorem Bkx.is2 (h:Bkx w base pw pk lb db lc dc c1 c2 g P ao r v b fl ol row q8 q9 q10 f1 f2 d1 d2 g2 ic ia W):IS W (some ⟨f2,0,none⟩) (Y.ints (coL r)):=by
 have:=kh (L:=coL r) h.n2 30 (Nat.le_refl _) (qx r).symm;rwa [show (coL r).take 30=coL r by rw [←qx r,List.take_length]] at this
end
set_option maxHeartbeats 6400000 in
theorem Jg {w:World}{base pw pk lb db lc dc c1 c2 cr cb:Nat}{g:Option Nat}{P:List (Nat × Nat)}{ao bo:Option Addr}{r:List Tok}{b:List Nat}(h:Wq w base pw g P) (hk:PkX w pk pw lb db lc dc c1 c2) (hT:kD w) (hb2:2≤base) (hn:wid P≤100000000)
  (hr:V.KS w ao r) (hao:∀ b off,ao=some ⟨b,off,none⟩→b<w.heap.size) (hro:∀ b off,ao=some ⟨b,off,none⟩→¬xG pw g b) (hrl:r.length≤20000) (hok:∀ t∈r,z7 t) (hs:zi w (.slice bo b.length cb) b) (hlo:0<b.length→∀ k,(Value.slice bo b.length cb).ownBlock=some k→k<base) (hbb:Bs b) (hbl:b.length≤65535) (last:Bool) :
  Calls prog 58 #[.pointer (some ⟨pk,0,none⟩),.slice ao r.length cr,.slice bo b.length cb,.bool last] w fun e w'=>e=.returned (.tuple #[])∧Pq w base pw g (P++xq (wid P) r b last) w':=by
 have HAO:=J hao;have HK:=J hk;have HW:=J h;have HT:=J hT;have HR:=J hr;have HS:=J hs;have HCN:=J (zbL (cr:=cr) hk.a hr hrl hok);obtain ⟨L,hL⟩:=exq (r.length);obtain ⟨M,hM⟩:=exq (b.length);have HL:=J hL;have HM:=J hM;have HGO:=J (And.intro hb2 (And.intro hn (And.intro hro (And.intro hrl (And.intro hok (And.intro hlo (And.intro hbb hbl)))))));rw [←hL] at HCN ⊢;rw [←hM] at HS HGO ⊢;have hM6:M≤65535:=by omega
 clear h hk hT hr hs hb2 hn hao hro hrl hok hlo hbb hbl hL hM;go_enter func58,ntmps58;go_upto_region 1 with (go_at_call 84;refine HCN.out.mono ?_;rintro e w1 ⟨f1,f2,rfl,hf1,hf2,hb⟩;have N1:=J (And.intro hf1 hf2);have B1:=J hb;clear hf1 hf2 hb HCN)
 obtain ⟨w2,hw2⟩:=exq (w1.alloc (.cells #[.slice (some ⟨f1,0,none⟩) 286 286,.slice (some ⟨f2,0,none⟩) 30 30] 141));obtain ⟨q8,hq8⟩:=exq (w1.heap.size);have B2:Hid (Below w.heap.size w w2):=J (by rw [hw2];exact B1.out.on ((Below.refl _ _).alloc (Nat.le_refl _) _));have R2:Hid (Blk w2 q8 141 #[.slice (some ⟨f1,0,none⟩) 286 286,.slice (some ⟨f2,0,none⟩) 30 30]):=J (by rw [hw2,hq8];exact Blk.made _ _ _);have N2:Hid (Blk w2 f1 3 (va 286 fun y => .int .i64 ((cfL r).getD y 0:Nat))∧Blk w2 f2 3 (va 30 fun y => .int .i64 ((coL r).getD y 0:Nat))):=J (by rw [hw2];exact ⟨N1.out.1.more _,N1.out.2.more _⟩)
 rw [←hw2,←hq8];clear hw2 hq8 N1 B1;have s0:=(R2.out.cell 0).trans (show _=some (.slice (some ⟨f1,0,none⟩) 286 286) from rfl);have s1:=(R2.out.cell 1).trans (show _=some (.slice (some ⟨f2,0,none⟩) 30 30) from rfl);have hto:=zgU r HGO.out.2.2.2.1 f1 f2 286 30 w2 N2.out.1 N2.out.2;unfold zbj at hto;obtain ⟨fl,hfl⟩:=exq (flF r);obtain ⟨ol,hol⟩:=exq (olF r);obtain ⟨row,hrow⟩:=exq (qG r);rw [←hfl,←hol,←hrow] at hto;have HTO:=J hto;have HFO:=J (And.intro hfl (And.intro hol hrow));clear hfl hol hrow hto;go_wp2_with fail
 with_reducible refine HTO.out.mono ?_
 rintro e w3 ⟨d1,d2,g2,ia,ic,rfl,hd1,hd2,hh,hb⟩;have D3:=J (And.intro hd1 (And.intro hd2 hh));have B3:=J hb;clear hd1 hd2 hh hb HTO s0 s1;unfold zmm hdV;have HBX:=J (fun (W:World) (hb:Below w2.heap.size w2 W)=>And.intro (HW.out.grow (B2.out.on hb)) (And.intro (HK.out.grow (B2.out.on hb)) (And.intro (HT.out.grow (B2.out.on hb)) (V.KS.on HR.out (B2.out.on hb)))));go_upto_region 2 with fail
 obtain ⟨w4,hw4⟩:=exq (((w3.alloc (.cells #[.pointer (some ⟨d1,0,none⟩),.pointer (some ⟨d2,0,none⟩)] 89)).alloc (.cells #[.int .i64 fl.length,.int .i64 ol.length,.slice (some ⟨g2,0,none⟩) 19 19,.slice ia (qA row).length ic] 145)));obtain ⟨q9,hq9⟩:=exq (w3.heap.size);have HB4:Hid (Below w3.heap.size w3 w4):=J (by rw [hw4];exact ((Below.refl _ _).alloc (Nat.le_refl _) _).on ((Below.refl _ _).alloc (Nat.le_refl _) _));have HX4:Hid (Bkx w base pw pk lb db lc dc c1 c2 g P ao r (.slice bo M cb) b fl ol row q8 q9 (q9+1) f1 f2 d1 d2 g2 ic ia w4):=J (by
  have hb:=B3.out.on HB4.out;refine ⟨(HBX.out w4 hb).1,(HBX.out w4 hb).2.1,(HBX.out w4 hb).2.2.1,(HBX.out w4 hb).2.2.2,zi.grow HS.out (B2.out.on hb),R2.out.below hb,?_,?_,N2.out.1.below hb,N2.out.2.below hb,D3.out.1.below HB4.out,D3.out.2.1.below HB4.out,(D3.out.2.2.grow HB4.out).less B2.out.size,B2.out.on hb⟩
  ·rw [hw4,hq9];exact (Blk.made _ _ _).more _
  ·rw [hw4,hq9]
   have:=Blk.made (w3.alloc (.cells #[.pointer (some ⟨d1,0,none⟩),.pointer (some ⟨d2,0,none⟩)] 89)) 145 #[.int .i64 fl.length,.int .i64 ol.length,.slice (some ⟨g2,0,none⟩) 19 19,.slice ia (qA row).length ic];rwa [qR] at this)
 rw [←hw4,←hq9];clear hw4 hq9 HBX HB4 D3 B3 N2 R2 HS HR HT;obtain ⟨S,hS⟩:=exq (jF (wid P) M);obtain ⟨F,hF⟩:=exq (Ju (wid P) r);obtain ⟨T,hT⟩:=exq (KO (wid P) r);obtain ⟨p3,hp3⟩:=exq (wid P+3);obtain ⟨cF,hcF⟩:=exq (costs zU ql r);obtain ⟨cT,hcT⟩:=exq (costs fl ol r);obtain ⟨x,hx⟩:=exq (xtr r);obtain ⟨hd,hhd⟩:=exq (wid (hdP fl.length ol.length row));have hF2:F=p3+cF+x:=by rw [hF,hp3,hcF,hx];rfl
 have hT2:T=p3+cT+x+hd:=by rw [hT,hp3,hcT,hx,hhd,HFO.out.1,HFO.out.2.1,HFO.out.2.2,←XF];rfl
 have HCB:=zh2 HGO.out.2.2.2.1;have hp9:p3≤100000003:=by have:=HGO.out.2.1;omega
 have hcF9:cF≤480000000:=by
  have h1:=vr ku.1 HCB.1 286;have h2:=vr kC.1 HCB.2 30;rw [hcF];unfold costs;omega
 have hcT9:cT≤480000000:=by
  have h1:=vr HX4.out.x1.ok HCB.1 286;have h2:=vr HX4.out.x2.ok HCB.2 30;rw [hcT];unfold costs;omega
 have hx9:x≤100000000:=by have:=zh0 (zb6 HCB.1) (zb6 HCB.2);omega
 have hrow15:∀ z∈row,z≤15:=by rw [HFO.out.2.2];exact kL r
 have hrowb:258≤row.length∧row.length≤316:=by rw [HFO.out.2.2];exact yp r
 have hfb:257≤fl.length∧fl.length≤286:=by rw [HFO.out.1];exact uU r
 have hob:1≤ol.length∧ol.length≤30:=by rw [HFO.out.2.1];exact vV r
 have hhd9:hd≤8000:=by
  have h1:=zaO (qD row) (jO (qD row) 19);have h2:=Xk (vH row) (zC row);have h3:=xQ row;have h4:=kA row;rw [hhd];unfold hdP;simp only [wid,zh];rw [zbQ];omega
 have H86:=J (Kf HX4.out.wq HX4.out.fpk.a.o (by omega) M (by omega));have H87:=J fun (W:World) (hW:Bkx w base pw pk lb db lc dc c1 c2 g P ao r (.slice bo M cb) b fl ol row q8 q9 (q9+1) f1 f2 d1 d2 g2 ic ia W)=>uY hW.wq hW.fpk.a.o (by omega)
 have H88:=J fun (W:World) (hW:Bkx w base pw pk lb db lc dc c1 c2 g P ao r (.slice bo M cb) b fl ol row q8 q9 (q9+1) f1 f2 d1 d2 g2 ic ia W)=>KG c1 c2 zU ql (cfL r) (coL r) (some ⟨f1,0,none⟩) (some ⟨f2,0,none⟩) 286 30 W hW.fpk.x1 hW.fpk.x2 hW.is1 hW.is2 (qt r) (qx r) HCB.1 HCB.2
 have H88T:=J fun (W:World) (hW:Bkx w base pw pk lb db lc dc c1 c2 g P ao r (.slice bo M cb) b fl ol row q8 q9 (q9+1) f1 f2 d1 d2 g2 ic ia W)=>KG d1 d2 fl ol (cfL r) (coL r) (some ⟨f1,0,none⟩) (some ⟨f2,0,none⟩) 286 30 W hW.x1 hW.x2 hW.is1 hW.is2 (qt r) (qx r) HCB.1 HCB.2
 have H89:=J fun (W:World) (hW:Bkx w base pw pk lb db lc dc c1 c2 g P ao r (.slice bo M cb) b fl ol row q8 q9 (q9+1) f1 f2 d1 d2 g2 ic ia W)=>zbz hW.fpk.a (cfL r) (coL r) (some ⟨f1,0,none⟩) (some ⟨f2,0,none⟩) 286 30 hW.is1 hW.is2 (qt r) (qx r) HCB.1 HCB.2
 have H90:=J fun (W:World) (hW:Bkx w base pw pk lb db lc dc c1 c2 g P ao r (.slice bo M cb) b fl ol row q8 q9 (q9+1) f1 f2 d1 d2 g2 ic ia W)=>head_size (ic:=ic) (n1:=fl.length) (n2:=ol.length) hW.ft hW.hd hrow15 (by omega) (by omega) (by omega) (by omega)
 rw [←hS] at H86;rw [←hp3] at H87;rw [show xx (cfL r) zU 286+xx (coL r) ql 30=cF from hcF.symm] at H88;rw [show xx (cfL r) fl 286+xx (coL r) ol 30=cT from hcT.symm] at H88T;rw [show k9 (cfL r) 29+yd (coL r) 30=x from hx.symm] at H89;rw [←hhd] at H90;unfold hdV at H90;have HSFT:=J (And.intro hS (And.intro hF hT));have AF3:Hid (∀ W,Bkx w base pw pk lb db lc dc c1 c2 g P ao r (.slice bo M cb) b fl ol row q8 q9 (q9+1) f1 f2 d1 d2 g2 ic ia W→W.cell? ⟨pk,3,none⟩=some (.pointer (some ⟨c1,0,none⟩))∧W.cell? ⟨pk,4,none⟩=some (.pointer (some ⟨c2,0,none⟩))∧W.cell? ⟨q8,0,none⟩=some (.slice (some ⟨f1,0,none⟩) 286 286)∧W.cell? ⟨q8,1,none⟩=some (.slice (some ⟨f2,0,none⟩) 30 30)):=
  J fun W hW=>⟨hW.fpk.fixed.1,hW.fpk.fixed.2,(hW.o8.cell 0).trans rfl,(hW.o8.cell 1).trans rfl⟩
 have AF4:Hid (∀ W,Bkx w base pw pk lb db lc dc c1 c2 g P ao r (.slice bo M cb) b fl ol row q8 q9 (q9+1) f1 f2 d1 d2 g2 ic ia W→W.cell? ⟨q9,0,none⟩=some (.pointer (some ⟨d1,0,none⟩))∧W.cell? ⟨q9,1,none⟩=some (.pointer (some ⟨d2,0,none⟩))∧W.cell? ⟨q8,0,none⟩=some (.slice (some ⟨f1,0,none⟩) 286 286)∧W.cell? ⟨q8,1,none⟩=some (.slice (some ⟨f2,0,none⟩) 30 30)∧W.cell? ⟨q9+1,0,none⟩=some (.int .i64 fl.length)∧W.cell? ⟨q9+1,1,none⟩=some (.int .i64 ol.length)∧W.cell? ⟨q9+1,2,none⟩=some (.slice (some ⟨g2,0,none⟩) 19 19)∧W.cell? ⟨q9+1,3,none⟩=some (.slice ia (qA row).length ic)):=
  J fun W hW=>⟨(hW.o9.cell 0).trans rfl,(hW.o9.cell 1).trans rfl,(hW.o8.cell 0).trans rfl,(hW.o8.cell 1).trans rfl,(hW.o10.cell 0).trans rfl,(hW.o10.cell 1).trans rfl,(hW.o10.cell 2).trans rfl,(hW.o10.cell 3).trans rfl⟩
 obtain ⟨s1,hs1⟩:=exq (p3+cF);obtain ⟨s2,hs2⟩:=exq (p3+cT);obtain ⟨s3,hs3⟩:=exq (s2+x);have E3:=J (And.intro (show IntKind.i64.wrap ((p3:Int)+cF)=(s1:Int) by rw [IntKind.wrap_i64];omega) (show IntKind.i64.wrap ((s1:Int)+x)=(F:Int) by rw [IntKind.wrap_i64];omega));have E4:=J (And.intro (show IntKind.i64.wrap ((p3:Int)+cT)=(s2:Int) by rw [IntKind.wrap_i64];omega) (And.intro (show IntKind.i64.wrap ((s2:Int)+x)=(s3:Int) by rw [IntKind.wrap_i64];omega) (show IntKind.i64.wrap ((s3:Int)+hd)=(T:Int) by rw [IntKind.wrap_i64];omega)));clear HCB hp9 hcF9 hcT9 hx9 hhd9 hF2 hT2 hS hF hT hp3 hcF hcT hx hhd hs1 hs2 hs3 hrow15 hrowb hfb hob;go_upto_region 3 with (go_at_call 86;(with_reducible refine H86.out.mono ?_);rintro e w5 ⟨rfl,hb⟩;have HX5:=J (HX4.out.grow hb);clear hb)
 clear H86 HX4;go_cut [12] from 26 (fun s12 wx=>s12=.int .i64 (F:Nat)∧Hid (Bkx w base pw pk lb db lc dc c1 c2 g P ao r (.slice bo M cb) b fl ol row q8 q9 (q9+1) f1 f2 d1 d2 g2 ic ia wx));case first=>
  obtain ⟨e1,e2⟩:=E3.out;have BX:=J (HX5.out.grow (zf w5));obtain ⟨k1,k2,k3,k4⟩:=AF3.out _ HX5.out;go_region_held3 (fun W=>W.cell? ⟨pk,3,none⟩=some (.pointer (some ⟨c1,0,none⟩))∧W.cell? ⟨pk,4,none⟩=some (.pointer (some ⟨c2,0,none⟩))∧W.cell? ⟨q8,0,none⟩=some (.slice (some ⟨f1,0,none⟩) 286 286)∧W.cell? ⟨q8,1,none⟩=some (.slice (some ⟨f2,0,none⟩) 30 30)) (first | assumption | exact AF3.out _ BX.out | go_keep) (first | (go_at_call 87;(with_reducible refine (H87.out _ BX.out).mono ?_);rintro e w6 ⟨rfl,rfl⟩) | (go_at_call 88;(with_reducible refine (H88.out _ BX.out).mono ?_);rintro e w6 ⟨rfl,hb⟩;have BX:=J (BX.out.grow hb);obtain ⟨j1,j2,j3,j4⟩:=AF3.out _ BX.out;clear hb) | (go_at_call 89;(with_reducible refine (H89.out _ BX.out).mono ?_);rintro e w6 ⟨rfl,hb⟩;have BX:=J (BX.out.grow hb);obtain ⟨j1,j2,j3,j4⟩:=AF3.out _ BX.out;clear hb))
  all_goals
   go_wp2_with fail
   go_meet
   exact ⟨rfl,BX⟩
 case rest=>
  obtain ⟨rfl,HX6⟩:=hcut;clear HX5 E3;go_upto_region 4 with fail
  go_cut [13] from 39 (fun s13 wx=>s13=.int .i64 (T:Nat)∧Hid (Bkx w base pw pk lb db lc dc c1 c2 g P ao r (.slice bo M cb) b fl ol row q8 q9 (q9+1) f1 f2 d1 d2 g2 ic ia wx));case first=>
   obtain ⟨e1,e2,e3⟩:=E4.out;have BX:=J (HX6.out.grow (zf wc));obtain ⟨k1,k2,k3,k4,k5,k6,k7,k8⟩:=AF4.out _ HX6.out;go_region_held3 (fun W=>W.cell? ⟨q9,0,none⟩=some (.pointer (some ⟨d1,0,none⟩))∧W.cell? ⟨q9,1,none⟩=some (.pointer (some ⟨d2,0,none⟩))∧W.cell? ⟨q8,0,none⟩=some (.slice (some ⟨f1,0,none⟩) 286 286)∧W.cell? ⟨q8,1,none⟩=some (.slice (some ⟨f2,0,none⟩) 30 30)∧W.cell? ⟨q9+1,0,none⟩=some (.int .i64 fl.length)∧W.cell? ⟨q9+1,1,none⟩=some (.int .i64 ol.length)∧W.cell? ⟨q9+1,2,none⟩=some (.slice (some ⟨g2,0,none⟩) 19 19)∧W.cell? ⟨q9+1,3,none⟩=some (.slice ia (qA row).length ic)) (first | assumption | exact AF4.out _ BX.out | go_keep) (first | (go_at_call 87;(with_reducible refine (H87.out _ BX.out).mono ?_);rintro e w6 ⟨rfl,rfl⟩) | (go_at_call 88;(with_reducible refine (H88T.out _ BX.out).mono ?_);rintro e w6 ⟨rfl,hb⟩;have BX:=J (BX.out.grow hb);obtain ⟨j1,j2,j3,j4,j5,j6,j7,j8⟩:=AF4.out _ BX.out;clear hb) | (go_at_call 89;(with_reducible refine (H89.out _ BX.out).mono ?_);rintro e w6 ⟨rfl,hb⟩;have BX:=J (BX.out.grow hb);obtain ⟨j1,j2,j3,j4,j5,j6,j7,j8⟩:=AF4.out _ BX.out;clear hb) | (go_at_call 90;(with_reducible refine (H90.out _ BX.out).mono ?_);rintro e w6 ⟨rfl,hb⟩;have BX:=J (BX.out.grow hb);obtain ⟨j1,j2,j3,j4,j5,j6,j7,j8⟩:=AF4.out _ BX.out;clear hb))
   all_goals
    go_wp2_with fail
    go_meet
    exact ⟨rfl,BX⟩
  case rest=>
   obtain ⟨rfl,HX7⟩:=hcut;clear HX6 E4 H87 H88 H88T H89 H90 AF3;obtain ⟨m,hm⟩:=exq (min (min S F) T);have em:(if (T:Int)<(if F<S then (F:Int) else (S:Int)) then (T:Int) else if F<S then (F:Int) else (S:Int))=(m:Int):=by
    by_cases h1:F<S
    ·rw [if_pos h1]
     by_cases h2:(T:Int)<F
     ·rw [if_pos h2];omega
     ·rw [if_neg h2];omega
    ·rw [if_neg h1]
     by_cases h2:(T:Int)<S
     ·rw [if_pos h2];omega
     ·rw [if_neg h2];omega
   have HMM:=J hm;have EM:=J em;clear hm em;go_upto_region 9 with fail
   rw [EM.out];clear EM;by_cases c1:m=S
   ·have c1':((m:Int) == S)=true:=by simp;omega
    have HC1:=J c1;clear c1;have HP:=J (zfc HX7.out.wq HX7.out.fpk.a.o (by have:=HGO.out.2.1;omega) last HX7.out.fs_ (by rw [←HM.out];exact HGO.out.2.2.2.2.2.1) HGO.out.2.2.2.2.2.2.1 (by rw [←HM.out];omega));go_wp2_with fail
    with_reducible refine HP.out.mono ?_
    rintro e w8 ⟨rfl,hq⟩;have HQ:=J (Pq.back HX7.out.fb_ hq);clear hq HP;go_wp2;go_end0;refine ⟨rfl,?_⟩;have e8:xq (wid P) r b last=xg (wid P) b last:=by
     unfold xq;rw [x4 _ _ (by rw [←HM.out];exact hM6),←HM.out,←HSFT.out.1,←HSFT.out.2.1,←HSFT.out.2.2,←HMM.out,if_pos HC1.out]
    rw [e8];exact HQ.out
   ·have c1':((m:Int) == S)=false:=by simp;omega
    have HC1:=J c1;clear c1;by_cases c2:m=F
    ·have c2':((m:Int) == F)=true:=by simp;omega
     have HC2:=J c2;clear c2;have HP:=J (kP HX7.out.wq HX7.out.fpk.a.o (by have:=HGO.out.2.1;omega) last 1 (by omega));go_wp2_with fail
     refine HP.out.mono ?_;rintro e w8 ⟨rfl,hq⟩;obtain ⟨g8,hw8,hf8,hk8⟩:=hq.thenF;have K8:=J hk8;have PK8:=J (HX7.out.fpk.keep HX7.out.wq hq);have k3:=PK8.out.fixed.1;have k4:=PK8.out.fixed.2;have HS8:=J (KN (cr:=cr) hw8 PK8.out.a PK8.out.x1 PK8.out.x2 (by have:=HGO.out.2.1;rw [zh];simp only [wid];omega) (KS.put HX7.out.fr_ hq HGO.out.2.2.1) (fun b' off e=>hf8 b' (Nat.lt_of_lt_of_le (HAO.out b' off e) HX7.out.fb_.size) (HGO.out.2.2.1 b' off e)) HGO.out.2.2.2.1 HGO.out.2.2.2.2.1
      (fun t ht=>(by decide +kernel:∀ y,y<286→ln zU y≠0) _ (HGO.out.2.2.2.2.1 t ht).fsy.1) (fun t ht h0=>(by decide +kernel:∀ y,y<30→ln ql y≠0) _ ((HGO.out.2.2.2.2.1 t ht).dsy h0)) (by decide +kernel))
     rw [←HL.out] at HS8;clear hq hw8 hf8 hk8 HP;go_wp2_with fail
     with_reducible refine HS8.out.mono ?_
     rintro e w9 ⟨rfl,hq⟩;have HQ:=J (Pq.back HX7.out.fb_ (K8.out _ _ hq));clear hq HS8;go_wp2;go_end0;refine ⟨rfl,?_⟩;have e8:P++xq (wid P) r b last=P++[(YtacpfpghokcdlaaGreatDoor.lb last,1),(1,2)]++(zG zU ql r++[cp zU 256]):=by
      unfold xq;rw [←HM.out,←HSFT.out.1,←HSFT.out.2.1,←HSFT.out.2.2,←HMM.out,if_neg HC1.out,if_pos HC2.out];unfold Jf;simp
     rw [e8];exact HQ.out
    ·have c2':((m:Int) == F)=false:=by simp;omega
     have HC2:=J c2;clear c2;have HP:=J (kP HX7.out.wq HX7.out.fpk.a.o (by have:=HGO.out.2.1;omega) last 2 (by omega));go_wp2_with fail
     refine HP.out.mono ?_;rintro e w8 ⟨rfl,hq⟩;have HFI:Hid (∀ b' off,ia=some ⟨b',off,none⟩→¬xG pw g b'∧b'<wc.heap.size):=J fun b' off e=>by
      have h1:=HX7.out.hd.ge b' off e;refine ⟨fun hf=>?_,?_⟩
      ·have:=(Wr.foot HW.out hf).2
       omega
      ·have h15:∀ z∈row,z≤15:=by rw [HFO.out.2.2];exact kL r
       have hrb:258≤row.length∧row.length≤316:=by rw [HFO.out.2.2];exact yp r
       obtain ⟨b2,off2,e2,t0,_⟩:=Y.TS.at HX7.out.hd.its (zfB h15 (by omega) (by omega));rw [e] at e2;cases e2;exact World.block_lt_of_cell? _ _ t0
     obtain ⟨g8,hw8,hf8,hk8⟩:=hq.thenF;have K8:=J hk8;have W8:=J hw8;have PK8:=J (HX7.out.fpk.keep HX7.out.wq hq);have O9:=J (zt.blk hq HX7.out.wq HX7.out.o9 (by decide) (by decide));have O10:=J (zt.blk hq HX7.out.wq HX7.out.o10 (by decide) (by decide));have H8:Hid (Hd w.heap.size w8 row g2 ia):=J ⟨zt.blk hq HX7.out.wq HX7.out.hd.own (by decide) (by decide),zgM HX7.out.hd.its hq fun b' off e=>(HFI.out b' off e).1,HX7.out.hd.ge⟩
     have R8:=J (KS.put HX7.out.fr_ hq HGO.out.2.2.1);have X8:=J (And.intro (HX7.out.x1.keep HX7.out.wq hq) (HX7.out.x2.keep HX7.out.wq hq));have F8:Hid (∀ b' off,ao=some ⟨b',off,none⟩→¬xG pw g8 b'∧b'<w8.heap.size):=J fun b' off e=>by
      have h1:=Nat.lt_of_lt_of_le (HAO.out b' off e) HX7.out.fb_.size;exact ⟨hf8 b' h1 (HGO.out.2.2.1 b' off e),Nat.lt_of_lt_of_le h1 (zt.size hq)⟩
     have HP8:=J (Ut (ic:=ic) (n1:=fl.length) (n2:=ol.length) (hw8.grow (zf w8)) (by have:=HGO.out.2.1;rw [zh];simp only [wid];omega) ((HX7.out.ft.put HX7.out.wq hq HGO.out.1).grow (zf w8)) HGO.out.1 (H8.out.grow (zf w8)) (fun b' off e=>hf8 b' (HFI.out b' off e).2 (HFI.out b' off e).1) (by rw [HFO.out.2.2];exact kL r) (by rw [HFO.out.2.2];have:=yp r;omega) (by rw [HFO.out.1];have:=uU r;omega) (by rw [HFO.out.2.1];have:=vV r;omega))
     have HHW:Hid (wid (hdP fl.length ol.length row)≤8000):=J (by
      have h1:=zaO (qD row) (jO (qD row) 19);have h2:=Xk (vH row) (zC row);have h3:=xQ row;have h4:=kA row;have h5:=yp r;rw [←HFO.out.2.2] at h5;unfold hdP;simp only [wid,zh];rw [zbQ];omega)
     unfold hdV at HP8;have k0:=PK8.out.a.o.cell;have t0:=(O10.out.cell 0).trans (show _=some (.int .i64 fl.length) from rfl);have t1:=(O10.out.cell 1).trans (show _=some (.int .i64 ol.length) from rfl);have t2:=(O10.out.cell 2).trans (show _=some (.slice (some ⟨g2,0,none⟩) 19 19) from rfl);have t3:=(O10.out.cell 3).trans (show _=some (.slice ia (qA row).length ic) from rfl);clear hq hw8 hf8 hk8 HP;go_wp2_with fail
     go_still_tail 5,(by kernel_rfl)
     change wpList _ _ _ _ _ w8.drew;go_wp2_with fail
     with_reducible refine HP8.out.mono ?_
     rintro e w9 ⟨rfl,hq⟩;have hq9:=Pq.undrew hq;obtain ⟨g9,hw9,hf9,hk9⟩:=hq9.thenF;have K9:=J fun Q w10 h=>K8.out Q w10 (hk9 Q w10 h)
     have O99:=J (zt.blk hq9 W8.out O9.out (by decide) (by decide));have s0:=(O99.out.cell 0).trans (show _=some (.pointer (some ⟨d1,0,none⟩)) from rfl);have s1':=(O99.out.cell 1).trans (show _=some (.pointer (some ⟨d2,0,none⟩)) from rfl);have HS9:=J (KN (cr:=cr) hw9 (PK8.out.keep W8.out hq9).a (X8.out.1.keep W8.out hq9) (X8.out.2.keep W8.out hq9) (by have:=HGO.out.2.1;have:=HHW.out;rw [zh,zh];simp only [wid];omega) (KS.put R8.out hq9 fun b' off e=>(F8.out b' off e).1) (fun b' off e=>hf9 b' (F8.out b' off e).2 (F8.out b' off e).1) HGO.out.2.2.2.1 HGO.out.2.2.2.2.1
      (fun t ht=>by rw [HFO.out.1];exact zb7 (HGO.out.2.2.2.2.1 t ht) ht) (fun t ht h0=>by rw [HFO.out.2.1];exact zcp (HGO.out.2.2.2.2.1 t ht) ht h0) (by rw [HFO.out.1];exact Qx r))
     rw [←HL.out] at HS9;clear hq hq9 hw9 hf9 hk9 HP8 k0 t0 t1 t2 t3;go_wp2_with fail
     with_reducible refine HS9.out.mono ?_
     rintro e w10 ⟨rfl,hq⟩;have HQ:=J (Pq.back HX7.out.fb_ (K9.out _ _ hq));clear hq HS9;go_wp2;go_end0;refine ⟨rfl,?_⟩;have e8:P++xq (wid P) r b last=(P++[(YtacpfpghokcdlaaGreatDoor.lb last,1),(2,2)]++hdP fl.length ol.length row)++(zG fl ol r++[cp fl 256]):=by
      unfold xq;rw [←HM.out,←HSFT.out.1,←HSFT.out.2.1,←HSFT.out.2.2,←HMM.out,if_neg HC1.out,if_neg HC2.out];unfold Kh;rw [XF,←HFO.out.1,←HFO.out.2.1,←HFO.out.2.2];simp
     rw [e8];exact HQ.out
theorem zdA (a b d:Nat) (w:World) (h2:b≤1000000) :
  Calls prog 80 #[.agg #[.int .u8 (a:Nat),.int .i64 (b:Nat),.int .i64 (d:Nat)]] w fun e w'=>e=.returned (.int .i64 (max b 1:Nat))∧Below w.heap.size w w':=by
 have B1:=J ((Below.refl w.heap.size w).alloc (Nat.le_refl _) (.cells #[.int .u8 (a:Nat),.int .i64 (b:Nat),.int .i64 (d:Nat)] 128));obtain ⟨T,hT⟩:=exq (max b 1);have HT:=J (show max (b:Int) 1=(T:Int) by rw [hT];omega);rw [←hT];clear hT;go_enter func80,ntmps80;have hm:=HT.out;go_wp2;all_goals
  go_ret;exact ⟨by first | rfl | (congr 2;omega) | (simp;omega),B1.out⟩
theorem zh8 {most k s:Nat}{r:List Tok}(h:¬(k<r.length∧k<16384∧s<most)):upN most (r.drop k) (16384-k) s=0:=by
 rcases Nat.lt_or_ge k r.length with h1 | h1
 ·rw [List.drop_eq_getElem_cons h1,upN,if_neg (by omega)]
 ·rw [List.drop_eq_nil_of_le h1];rfl
theorem zma {most k s:Nat}{r:List Tok}(h1:k<r.length) (h2:k<16384) (h3:s<most):upN most (r.drop k) (16384-k) s=upN most (r.drop (k+1)) (16384-(k+1)) (s+V.M.tells (V.tk r k))+1:=by
 have e:V.tk r k=r[k]:=by unfold V.tk;rw [List.getD_eq_getElem?_getD,List.getElem?_eq_getElem h1];rfl
 rw [List.drop_eq_getElem_cons h1,upN,if_pos (by omega),e];rfl
theorem Km {k:Nat}{r:List Tok}(h1:k<r.length):V.M.sum (r.take (k+1))=V.M.sum (r.take k)+V.M.tells (V.tk r k):=by
 rw [V.yM r k h1];simp [V.M.sum]
set_option maxHeartbeats 1600000 in
theorem Uv {w:World}{ao:Option Addr}{cr:Nat}{r:List Tok}(most:Nat) (hr:V.KS w ao r) (hrl:r.length≤100000) (hok:∀ t∈r,z7 t) (hm:most≤100000) :
  Calls prog 57 #[.slice ao r.length cr,.int .i64 (most:Nat)] w fun e w'=>e=.returned (.tuple #[.int .i64 (upN most r 16384 0:Nat),.int .i64 (V.M.sum (r.take (upN most r 16384 0)):Nat)])∧Below w.heap.size w w':=by
 have HR:=J hr;have HOK:=J hok;obtain ⟨L,hL⟩:=exq (r.length);have HL:=J hL;obtain ⟨n,hn⟩:=exq (upN most r 16384 0);have HN:=J hn;rw [←hL,←hn];rw [←hL] at hrl;clear hr hok hL hn;go_enter func57,ntmps57;go_wp2;go_loopw [4,5] (fun v4 v5 wr=>∃ (k s:Nat),k≤L∧v4=.int .i64 (k:Nat)∧v5=.int .i64 (s:Nat)∧s≤200000∧Hid (s=V.M.sum (r.take k)∧k+upN most (r.drop k) (16384-k) s=n)∧Hid (Below w.heap.size w wr)) (fun v4 _ _=>L-(intOf v4).toNat)
 case atStart=>exact ⟨0,0,Nat.zero_le _,rfl,rfl,Nat.zero_le _,J ⟨rfl,by rw [List.drop_zero,Nat.zero_add];exact HN.out.symm⟩,J (Below.refl _ _)⟩
 case round=>
  obtain ⟨k,s,hk,rfl,rfl,hs2,HS,HB⟩:=hrel;by_cases c:k<L∧k<16384∧s<most
  ·obtain ⟨h1,h2,h3⟩:=c
   have h1':(k:Int)<L:=by omega
   have h2':(k:Int)<16384:=by omega
   have h3':(s:Int)<most:=by omega
   have hkr:k<r.length:=by rw [←HL.out];exact h1
   obtain ⟨b,off,rfl,t0,t1,t2⟩:=(V.KS.on HR.out HB.out).at hkr;obtain ⟨t,ht⟩:=exq (V.tk r k);have HT:Hid (t∈r):=J (by rw [ht];exact V.za6 r k hkr);have HU:=J (And.intro (zma (most:=most) (s:=s) hkr h2 h3) (Km hkr));rw [←ht] at t0 t1 t2 HU;obtain ⟨x0,hx0⟩:=exq (t.lit);obtain ⟨x1,hx1⟩:=exq (t.len);obtain ⟨x2,hx2⟩:=exq (t.dist);have hx3:x1≤300:=by
    by_cases h0:t.len=0
    ·omega
    ·have:=(HOK.out t HT.out).len h0;omega
   rw [←hx0] at t0;rw [←hx1] at t1;rw [←hx2] at t2;obtain ⟨y,hy⟩:=exq (max x1 1);have hy3:y≤300:=by omega
   have HTE:Hid (V.M.tells t=y):=J (by rw [hy,hx1];rfl);have HSP:Hid (∀ W,Calls prog 80 #[.agg #[.int .u8 (x0:Nat),.int .i64 (x1:Nat),.int .i64 (x2:Nat)]] W fun e w'=>e=.returned (.int .i64 (y:Nat))∧Below W.heap.size W w'):=J fun W=>by
    rw [hy];exact zdA x0 x1 x2 W (by omega)
   clear ht hx0 hx1 hx2 hy hkr;have hc:16384<L∨L≤16384:=Nat.lt_or_ge _ _;rcases hc with hc | hc
   all_goals
    have hc':=hc;go_wp2_with fail
    with_reducible refine (HSP.out _).mono ?_
    rintro e w3 ⟨rfl,hb⟩;have HB3:=J (HB.out.on hb);clear hb;go_wp2;go_roundw;case rel=>
     refine ⟨k+1,s+y,by omega,by go_num,by go_num,by omega,J ⟨?_,?_⟩,HB3⟩
     ·rw [HU.out.2,HTE.out,HS.out.1]
     ·have h8:=HS.out.2
      rw [HU.out.1,HTE.out] at h8;omega
    case measure=>simp [intOf];omega
  ·have HC:=J (zh8 (r:=r) (most:=most) (k:=k) (s:=s) (by rw [←HL.out];exact c))
   have HKN:Hid (k=n):=J (by have:=HS.out.2;rw [HC.out] at this;omega);have hcc:(L≤k∨16384≤k)∨(k<L∧k<16384∧most≤s):=by omega
   clear c;have hfin:(16384<L∧(16384:Int)≤k)∨(16384<L∧(k:Int)<16384∧(most:Int)≤s)∨(L≤16384∧(L:Int)≤k)∨(L≤16384∧(k:Int)<L∧(most:Int)≤s):=by omega
   clear hcc;rcases hfin with ⟨hc,f1⟩ | ⟨hc,f1,f2⟩ | ⟨hc,f1⟩ | ⟨hc,f1,f2⟩
   ·have d1:decide ((k:Int)<16384)=false:=decide_eq_false (by omega)
    have hc':=hc;go_wp2;go_ret2
    exact ⟨by rw [←HKN.out,←HS.out.1];rfl,HB.out⟩
   ·have d1:decide ((s:Int)<most)=false:=decide_eq_false (by omega)
    have hc':=hc;go_wp2;go_ret2
    exact ⟨by rw [←HKN.out,←HS.out.1];rfl,HB.out⟩
   ·have d1:decide ((k:Int)<L)=false:=decide_eq_false (by omega)
    have hc':=hc;go_wp2;go_ret2
    exact ⟨by rw [←HKN.out,←HS.out.1];rfl,HB.out⟩
   ·have d1:decide ((s:Int)<most)=false:=decide_eq_false (by omega)
    have hc':=hc;go_wp2;go_ret2
    exact ⟨by rw [←HKN.out,←HS.out.1];rfl,HB.out⟩
end
section
open Go.RowKit
def QU (bs:List Nat) (en:Nat) (s:Pst) (more:Bool):Pst:=if more then pkB bs en (s.r.length+1) s else s
theorem zgt {bs:List Nat}{R:List Tok}{ends:List Nat}{en:Nat}(hbs:Bs bs) (hl:bs.length≤65535) (A:AP bs ends R) (he:en∈ends) (hen:en≤bs.length) :
  ∀ (f g:Nat) {s:Pst} {j k:Nat},Mid bs R s j k→s.r.length<f→s.r.length<g→(s.at_<en∨(s.at_=en∧bs.length=0))→pkB bs en f s=pkB bs en g s:=by
 intro f;induction f with
 | zero=>intro g s j k _ h;omega
 | succ f ih=>
  intro g s j k M hf hg hat;obtain ⟨g,rfl⟩:∃ g',g=g'+1:=⟨g-1,by omega⟩;obtain ⟨h1,h2,h3,h4,h5,h6⟩:=M.one hbs hl A he hen hat;rw [pkB,pkB];by_cases hlt:(pk1 bs en s).at_<en
  ·rw [if_pos hlt,if_pos hlt]
   obtain ⟨j',M'⟩:=h5 (by omega);have h7:(pk1 bs en s).r.length<s.r.length:=by
    rcases hat with h | h
    ·exact h4 h
    ·omega
   exact ih g M' (by omega) (by omega) (.inl hlt)
  ·rw [if_neg hlt,if_neg hlt]
theorem zep {bs:List Nat}{R:List Tok}{ends:List Nat}{en:Nat}(hbs:Bs bs) (hl:bs.length≤65535) (A:AP bs ends R) (he:en∈ends) (hen:en≤bs.length){s:Pst}{j k:Nat}(M:Mid bs R s j k) (hat:s.at_<en∨(s.at_=en∧bs.length=0)) :
  QU bs en s true=QU bs en (pk1 bs en s) (decide ((pk1 bs en s).at_<en)):=by
 obtain ⟨h1,h2,h3,h4,h5,h6⟩:=M.one hbs hl A he hen hat;unfold QU;rw [if_pos rfl,pkB];by_cases hlt:(pk1 bs en s).at_<en
 ·rw [if_pos hlt,decide_eq_true hlt,if_pos rfl]
  obtain ⟨j',M'⟩:=h5 (by omega);have h7:(pk1 bs en s).r.length<s.r.length:=by
   rcases hat with h | h
   ·exact h4 h
   ·omega
  exact zgt hbs hl A he hen _ _ M' (by omega) (Nat.lt_succ_self _) (.inl hlt)
 ·rw [if_neg hlt,decide_eq_false hlt]
  rfl
end
section
open Go.ChangeShapes Go.WideShapes Go.ChangeAt Go.RowKit
theorem Jv {H:Type}{enc:TypeId × Value→H}{P:Program}{w:World}{base:Nat}{sp:Nat→Bool}{held:Bool}{fuel:Nat}{t e ti:TypeId}{n:Nat}{k:IntKind}{cs:List Value}{zs:List (Int × Int)}{p:List MemPlace}{f0 f1:Field}
  (ht:P.underlying t=some (.array n e)) (he:P.underlying e=some (.struct #[f0,f1])) (h0:f0.type=ti∧f0.offset=0) (h1:f1.type=ti∧f1.offset=1) (hti:P.underlying ti=some (.int k)) (hci:P.cellsOf ti=1) (hce:P.cellsOf e=2) (hct:P.cellsOf t=n*2)
  (h:DataW.trod enc P w base sp held fuel t cs=some (.agg (zs.map fun z => .agg [.lit (.int k z.1),.lit (.int k z.2)]),p)) (i:Nat) (hi:i<n) :
  ∃ z,zs[i]? = some z∧cs[i*2]? = some (.int k z.1)∧cs[i*2+1]? = some (.int k z.2):=by
 cases fuel with
 | zero=>simp [DataW.trod] at h
 | succ fuel=>
  simp only [DataW.trod,ht,hce,hct] at h;split at h
  ·rename_i hl
   obtain ⟨xs,hm,hx⟩:=Option.map_eq_some_iff.1 h;have hxs:xs.map (·.1)=zs.map fun z=>(DataW.agg [.lit (.int k z.1),.lit (.int k z.2)]:DataW H):=by
    have:=congrArg Prod.fst hx;simpa using this
   obtain ⟨b,hb,hf⟩:=Lib.mapM_at hm i i (by simp [hi]);obtain ⟨y0,y1,m,hb2,hlen,hy0,hy1⟩:=trod_struct2 he hf;rw [h0.1,h0.2,hci] at hy0;rw [h1.1,h1.2,hci] at hy1;obtain ⟨a0,hc0,rfl,_⟩:=DataW.trod_int hti hy0;obtain ⟨a1,hc1,rfl,_⟩:=DataW.trod_int hti hy1;have h2:(xs.map (·.1))[i]? = some (DataW.agg [.lit (.int k a0),.lit (.int k a1)]:DataW H):=by simp [hb,hb2]
   rw [hxs] at h2;simp only [List.getElem?_map,Option.map_eq_some_iff] at h2;obtain ⟨z,hz,he2⟩:=h2;simp only [DataW.agg.injEq,List.cons.injEq,DataW.lit.injEq,Lit.int.injEq,true_and,and_true] at he2;refine ⟨z,hz,?_,?_⟩
   ·rw [he2.1]
    have:=congrArg (·[0]?) hc0;simpa [List.getElem?_take,List.getElem?_drop] using this
   ·rw [he2.2]
    have:=congrArg (·[0]?) hc1;simpa [List.getElem?_take,List.getElem?_drop] using this
  ·cases h
def zmd:List (Int × Int):=[(0,0),(8,0),(16,0),(32,0),(32,8),(48,16),(64,32),(96,64),(128,128),(256,258)]
theorem zlB:∀ i,i<10→∀ z,zmd[i]? = some z→z.1=((V.eff.getD (i*2) 0:Nat):Int)∧z.2=((V.eff.getD (i*2+1) 0:Nat):Int):=by
 intro i hi z hz;have:i=0∨i=1∨i=2∨i=3∨i=4∨i=5∨i=6∨i=7∨i=8∨i=9:=by omega
 rcases this with rfl | rfl | rfl | rfl | rfl | rfl | rfl | rfl | rfl | rfl <;> (cases hz;exact ⟨rfl,rfl⟩)
theorem ziI {W:World}(h:laidMetH prog uN W):V.yc W:=by
 rw [MakeChecks.laidMetH_plain _ _ _ (by kernel_rfl)] at h;obtain ⟨ps,⟨g',t',cs,fuel,p,q,hg',ht',hvar,hd,_,_⟩,_⟩:=h;obtain rfl:=Option.some.inj ((show prog.globalNamed "etui/match.efforts" = some 0 by kernel_rfl).symm.trans hg');obtain rfl:=Option.some.inj ((show (prog.globals[0]?).map (·.type)=some 133 by kernel_rfl).symm.trans ht');have hc:=fun i hi=>Jv (zs:=zmd) (k:=.i64) (n:=10) underlying133 underlying132 ⟨rfl,rfl⟩ ⟨rfl,rfl⟩ underlying3 (by kernel_rfl) (by kernel_rfl) (by kernel_rfl) hd i hi
 have hcell:=fun j=>World.var?_cell hg' hvar j
 intro j hj;obtain ⟨z,hz,c0,c1⟩:=hc (j/2) (by omega);obtain ⟨e0,e1⟩:=zlB (j/2) (by omega) z hz;have hm:j=j/2*2∨j=j/2*2+1:=by omega
 rcases hm with e | e
 ·rw [e,hcell,←e0]
  simpa using c0
 ·rw [e,hcell,←e1]
  simpa using c1
end
section
open Go.RowKit
theorem KR (ao:Option Addr) (n c:Nat) (v:Value) (eo:Option Addr) (ce:Nat) (w:World) :
  Calls prog 55 #[.slice ao n c,v,.slice eo 1 ce] w fun e w'=>e=.returned (.slice ao n c)∧w'=w:=by
 go_enter func55,ntmps55;go_wp2;go_ret;exact ⟨rfl,rfl⟩
theorem zk7 {w:World}{base pw:Nat}{P:List (Nat × Nat)}(hw:Wq w base pw none P){b off:Nat}{r:List Tok}(h:V.KS w (some ⟨b,off,none⟩) r) (h0:0<r.length):¬xG pw none b:=by
 intro hf;have hb:b=pw:=by
  rcases hf with h | h
  ·exact h
  ·cases h
 subst hb;obtain ⟨b',off',e,t0,_⟩:=h.at h0;cases e;obtain ⟨bs,ho,_⟩:=hw;obtain ⟨sv,h1,_,h3⟩:=ho.blk;obtain ⟨ao,c,rfl⟩:=zr h3;obtain ⟨c0,c1,_,_⟩:=zX h1;rw [Nat.zero_mul,Nat.add_zero] at t0;rcases Nat.lt_or_ge off 2 with hlt | hge
 ·rcases (by omega:off=0∨off=1) with rfl | rfl
  ·rw [c0] at t0;cases t0
  ·rw [c1] at t0;cases t0
 ·rw [Blk.cell h1,Array.getElem?_eq_none (by simp;omega)] at t0
  cases t0
end
section
open Go.Lib renaming hid → J
open Go.RowKit
structure Pkw (w0:World) (base pw bl:Nat) (s:Pst) (o c:Nat) (wr:World):Prop where
 wq:Pq w0 base pw none s.P wr
 ks:V.KS wr (some ⟨bl,o,none⟩) s.r
 len:s.r.length≤c
theorem zkr {bs ends:List Nat}{i:Nat}(h:i<ends.length) (s:Pst):pkS bs (ends.drop i) s=pkS bs (ends.drop (i+1)) (QU bs (ends.getD i 0) s true):=by
 have e:ends.getD i 0=ends[i]:=by rw [List.getD_eq_getElem?_getD,List.getElem?_eq_getElem h];rfl
 rw [List.drop_eq_getElem_cons h,pkS,e];rfl
def zlW (v:Value):Nat:=match v with | .slice _ m _=>m | _=>0
def boF (v:Value):Nat:=match v with | .bool true=>1 | _=>0
theorem zgk (v:Value):boF v≤1:=by unfold boF;split <;> omega
set_option maxHeartbeats 6400000 in
theorem XW {w:World}{b off cb q ce:Nat}{bs ends:List Nat}(level:Int) (hTM:V.yc w) (hTD:kD w) (hs:zi w (.slice (some ⟨b,off,none⟩) bs.length cb) bs) (hb:Bs bs) (hl:bs.length≤5000) (h0:0<bs.length) (hcb:bs.length≤cb)
  (hi:IS w (some ⟨q,0,none⟩) (Y.ints ends)) (hE:Ends bs.length ends) (hce:ends.length≤ce) (h1:1≤ends.length) (hel:ends.length≤1000) :
  Calls prog 34 #[.slice (some ⟨b,off,none⟩) bs.length cb,.int .i64 level,.slice (some ⟨q,0,none⟩) ends.length ce] w fun e w'=>∃ R,AP bs ends R∧(ends.length=1→R=V.qb bs level)∧Kept w (qz (pkS bs ends ⟨R,0,[]⟩).P) e w':=by
 obtain ⟨n,hn⟩:=exq (bs.length);obtain ⟨E,hEn⟩:=exq (ends.length);have HN:=J hn;have HEN:=J hEn;have HTM:=J hTM;have HTD:=J hTD;have HS:=J hs;have HB:=J hb;have HI:=J hi;have HE:=J hE;have hz:2≤w.heap.size:=World.block_lt_of_cell? w _ (hTD 0 (by decide));have HBL:Hid (b<w.heap.size):=J (zi.lt hs h0 b rfl);have HLE:Hid (bs.length≤5000):=J hl;rw [←hn] at hl h0 hcb ⊢;rw [←hEn] at hce h1 hel ⊢;clear hTM hTD hs hb hi hE hn hEn;go_enter func34,ntmps34;go_wp2_with fail
 refine (JJ w).mono ?_;rintro e w1 ⟨pk,pw,lb,db,lc,dc,c1,c2,rfl,hw,hp,hbl⟩;have W1:=J hw;have P1:=J hp;have B1:=J hbl;clear hw hp hbl;have HF:=J (V.jm w1 (.slice (some ⟨b,off,none⟩) n cb) bs level (V.yc.keep HTM.out B1.out) (by have:=HS.out.grow B1.out;rwa [←HN.out] at this) HB.out (by have:=HLE.out;omega));go_wp2_with fail
 refine HF.out.mono ?_;rintro e w2 ⟨ao,c,r,rfl,hks,hbl,hrc,hex,hlit,_,_,hrF⟩;have HXL:=J (And.intro hex hlit);have HRF:=J hrF;have K2:=J hks;have W2:=J (W1.out.grow hbl);have P2:=J (P1.out.grow hbl);have B2:=J (B1.out.on hbl);have HRC:=J hrc.1;have HAPC:Hid (Calls prog 55 #[.slice ao r.length c,.slice (some ⟨b,off,none⟩) n cb,.slice (some ⟨q,0,none⟩) E ce] w2 fun e w'=>∃ ao c R,e=.returned (.slice ao R.length c)∧V.KS w' ao R∧Below w2.heap.size w2 w'∧R.length≤c∧AP bs ends R∧(E=1→R=V.qb bs level)):=J (by
  by_cases h2:2≤E
  ·rw [HN.out,HEN.out]
   have S2:=HS.out.grow B2.out;refine (zaA K2.out HXL.out.1 HXL.out.2 S2 HB.out HLE.out (by rw [←HN.out];exact h0) (by rw [←HN.out];exact hcb) (IS.below HI.out B2.out) HE.out (by rw [←HEN.out];exact hce) (by rw [←HEN.out];exact h2) (by rw [←HEN.out];exact hel)).mono ?_;rintro e w' ⟨ao,c,R,k1,k2,k3,k4,k5⟩;exact ⟨ao,c,R,k1,k2,k3,k4,k5,fun h=>by have:=HEN.out;omega⟩
  ·obtain rfl:E=1:=by omega
   refine (KR _ _ _ _ _ _ _).mono ?_;rintro e w' ⟨rfl,rfl⟩;have he:ends=[bs.length]:=by
    have:=HEN.out;match ends,this,HE.out.last with
    | [x],_,h=>simpa using h
   exact ⟨ao,c,r,rfl,K2.out,Below.refl _ _,HRC.out,by rw [he];exact zbb HXL.out.1 HXL.out.2,fun _=>HRF.out⟩)
 clear hks hbl hrc hex hlit hrF HF W1 P1 B1 h1;go_wp2_with fail
 refine HAPC.out.mono ?_;rintro e w3 ⟨ao3,c3,R,rfl,hks,hbl,hrc,hA,hRF⟩;have HA:=J hA;have HRF3:=J hRF;have hsum:=V.M.xk hA.ex;have hlen:=V.M.xX R;simp only [List.length_nil,Nat.zero_add] at hsum;have hr0:0<R.length:=by
  rcases Nat.eq_zero_or_pos R.length with h | h
  ·have he:=List.eq_nil_of_length_eq_zero h
   rw [he] at hsum;have h1:bs.length=0:=hsum;have:=HN.out;omega
  ·exact h
 have hr5:R.length≤5000:=by have:=HN.out;omega
 obtain ⟨bl,o0,rfl,t0,_⟩:=hks.at hr0;have W3:=J (W2.out.grow hbl);have P3:=J (P2.out.grow hbl);have B3:=J (B2.out.on hbl);have K3:=J hks;have HBLL:Hid (bl<w3.heap.size):=J (World.block_lt_of_cell? w3 _ t0);have HNF:Hid (¬xG pw none bl):=J (zk7 W3.out hks hr0);have T3:=J (HTD.out.grow B3.out);have S3:=J (HS.out.grow B3.out);have I3:=J (IS.below HI.out B3.out);have HR:=J hr5;have HRC3:=J hrc;obtain ⟨SF,hSF⟩:=exq (pkS bs ends ⟨R,0,[]⟩);have HSF:=J hSF;have HFIN:Hid (xI SF.P∧wid SF.P≤1000000):=J (by
  obtain ⟨k,hk,hF⟩:=uB HB.out (by have:=HLE.out;omega) HE.out HA.out;rw [hSF];have:=hF.wide;have:=hF.few;have:=HLE.out;exact ⟨hF.fit,by omega⟩)
 clear hks hbl hrc hA hRF hsum hlen t0 hr5 hr0 hSF HAPC K2 HRC HRF W2 P2 B2 HXL;go_wp2_with fail
 go_loopw [8,9,24] (fun v8 v9 v24 wr=>∃ (i a lr o c:Nat) (s:Pst),i≤E∧v8=.slice (some ⟨bl,o,none⟩) lr c∧v9=.int .i64 (a:Nat)∧v24=.int .i64 (i:Nat)∧Hid (lr=s.r.length∧a=s.at_∧pkS bs (ends.drop i) s=SF∧(i<E→(∃ j k,Mid bs R s j k)∧a<ends.getD i 0))∧Hid (Pkw w3 w.heap.size pw bl s o c wr)) (fun _ _ v24 _=>E-(intOf v24).toNat)
 case atStart=>
  refine ⟨0,0,R.length,o0,c3,⟨R,0,[]⟩,Nat.zero_le _,rfl,rfl,rfl,J ⟨rfl,rfl,by rw [List.drop_zero];exact HSF.out.symm,fun hE=>⟨⟨0,0,Mid.start bs R⟩,?_⟩⟩,J ⟨Pq.refl W3.out,K3.out,HRC3.out⟩⟩
  have hE':0<ends.length:=by rw [←HEN.out];exact hE
  have h4:ends.getD 0 0∈ends:=by rw [List.getD_eq_getElem?_getD,List.getElem?_eq_getElem hE'];exact List.getElem_mem hE'
  have:=(HE.out.pos _ h4).2;have:=HN.out;omega
 case round=>
  obtain ⟨i,a,lr,o,c,s,hi,rfl,rfl,rfl,HX,HW⟩:=hrel;by_cases hlt:i<E
  ·have hlt':(i:Int)<E:=by omega
   have hie:i<ends.length:=by rw [←HEN.out];exact hlt
   obtain ⟨e,he⟩:=exq (ends.getD i 0);have hem:e∈ends:=by rw [he,List.getD_eq_getElem?_getD,List.getElem?_eq_getElem hie];exact List.getElem_mem hie
   have hen:e≤n:=by rw [HN.out];exact (HE.out.pos e hem).1
   obtain ⟨hx1,hx2,hx3,hx4⟩:=HX.out;obtain ⟨⟨j0,k0,hM⟩,hae⟩:=hx4 hlt;rw [←he] at hae;obtain ⟨bi,oi,hbo,q1⟩:=(IS.touch I3.out (show Touch (xG pw none) w3 wr from by obtain ⟨_,_,ht,_⟩:=HW.out.wq;exact ht) (fun b' off' e' hne hf=>by
    have h1:=(Wr.foot W3.out hf).1;have h2:=IS.lt HI.out b' off' e' hne;omega)).at (show i<(Y.ints ends).length by rw [Y.zj];exact hie)
   cases hbo;rw [Y.ints_at,←he,Nat.zero_add] at q1;obtain ⟨SE,hSE⟩:=exq (QU bs e s true);have HSE:Hid (pkS bs (ends.drop (i+1)) SE=SF∧SE.at_=e∧(i+1<E→∃ j k,Mid bs R SE j k)∧(i+1<E→e<ends.getD (i+1) 0)):=J (by
    have h5:=xK HE.out hie;rw [←he,←HEN.out] at h5;obtain ⟨k',u1,u2,u3,u4⟩:=hM.upto HB.out (by have:=HLE.out;omega) HA.out hem (by rw [←HN.out];exact hen) (s.r.length+1) (Nat.lt_succ_self _) (.inl (by rw [←hx2];exact hae));have e9:SE=pkB bs e (s.r.length+1) s:=by rw [hSE];unfold QU;rw [if_pos rfl]
    refine ⟨?_,by rw [e9];exact u2,fun h=>?_,h5.2.1⟩
    ·rw [hSE,he,←zkr hie];exact hx3
    ·have h6:=h5.2.1 h
     have h7:ends.getD (i+1) 0≤bs.length:=(xK HE.out (by rw [←HEN.out];exact h)).1;obtain ⟨j',h8⟩:=u3 (by omega);rw [e9];exact ⟨j',k',h8⟩)
   have HST:Hid (lr=s.r.length∧a=s.at_∧QU bs e s true=SE∧∃ j k,Mid bs R s j k):=J ⟨hx1,hx2,hSE.symm,j0,k0,hM⟩;have HEM:=J hem;clear he hx1 hx2 hx3 hx4 hM hSE HX hem;go_wp2_with fail
   go_loopw [8,9,12] (fun v8 v9 v12 wr=>∃ (a lr o c:Nat) (s:Pst) (more:Bool),v8=.slice (some ⟨bl,o,none⟩) lr c∧v9=.int .i64 (a:Nat)∧v12=.bool more∧Hid (lr=s.r.length∧a=s.at_∧QU bs e s more=SE∧(more=true→(∃ j k,Mid bs R s j k)∧a<e))∧Hid (Pkw w3 w.heap.size pw bl s o c wr)) (fun v8 _ v12 _=>2*zlW v8+boF v12)
   case atStart=>exact ⟨a,lr,o,c,s,true,rfl,rfl,rfl,J ⟨HST.out.1,HST.out.2.1,HST.out.2.2.1,fun _=>⟨HST.out.2.2.2,hae⟩⟩,HW⟩
   case round=>
    clear HST HW hae q1;obtain ⟨a,lr,o,c,s,more,rfl,rfl,rfl,HX,HW⟩:=hrel;cases more
    ·go_wp2
     go_roundw;case rel=>
      have hs:s=SE:=by
       have:=HX.out.2.2.1;unfold QU at this;rwa [if_neg (by decide)] at this
      subst hs;exact ⟨i+1,a,lr,o,c,s,by omega,rfl,rfl,by go_num,J ⟨HX.out.1,HX.out.2.1,HSE.out.1,fun h=>⟨HSE.out.2.2.1 h,by rw [HX.out.2.1,HSE.out.2.1];exact HSE.out.2.2.2 h⟩⟩,HW⟩
     case measure=>simp [intOf];omega
    ·obtain ⟨hx1,hx2,hx3,hx4⟩:=HX.out
     obtain ⟨⟨j,k,hM⟩,hae⟩:=hx4 rfl;have hbl9:bs.length≤65535:=by have:=HLE.out;omega
     have hO:=hM.one HB.out hbl9 HA.out HEM.out (by rw [←HN.out];exact hen) (.inl (by rw [←hx2];exact hae));have hst:=zep HB.out hbl9 HA.out HEM.out (by rw [←HN.out];exact hen) hM (.inl (by rw [←hx2];exact hae));rw [hx3] at hst;have hwide:=hM.wide;have hkle:=hM.k_le;have hjle:=hM.j_le;have hwid:wid s.P≤100000000:=by have:=HR.out;have:=(HA.out.mid hM).2.1;have:=HLE.out;omega
     have hrl:s.r.length≤5000:=by rw [hM.rest,List.length_drop];have:=HR.out;omega
     have hok:∀ t∈s.r,z7 t:=fun t h=>HA.out.ok t (List.mem_of_mem_drop (by rwa [hM.rest] at h))
     obtain ⟨mo,hmo⟩:=exq (e-a);obtain ⟨n1,hn1⟩:=exq (upN mo s.r 16384 0);obtain ⟨td,htd⟩:=exq (V.M.sum (s.r.take n1));have hn1l:=(zgw mo s.r 16384 0).1;rw [←hn1,←hx1] at hn1l;have e1:pk1 bs e s=⟨s.r.drop n1,a+td,s.P++xq (wid s.P) (s.r.take n1) ((bs.drop a).take td) (decide (a+td=bs.length))⟩:=by
      rw [htd,hn1,hmo,hx2];rfl
     obtain ⟨x,hx⟩:=exq (a+td);have hxe:x≤e:=by have:=hO.1;rw [e1] at this;rw [hx];exact this
     have hn1p:lr-n1<lr:=by
      have h5:=hO.2.2.2.1 (by rw [←hx2];exact hae);rw [e1] at h5;simp only [List.length_drop] at h5;omega
     obtain ⟨ls,hls⟩:=exq (decide (x=n));have hUP:=(Uv (cr:=c) mo HW.out.ks (by omega) hok (by omega));rw [←hx1,←hn1,←htd] at hUP;have HUP:=J hUP;have HPB:Hid (∀ w5,Below wr.heap.size wr w5→Calls prog 58 #[.pointer (some ⟨pk,0,none⟩),.slice (some ⟨bl,o,none⟩) n1 c,.slice (some ⟨b,off+a,none⟩) td (cb-a),.bool ls] w5 fun e' w'=>e' = .returned (.tuple #[])∧Pq w3 w.heap.size pw none (pk1 bs e s).P w'∧V.KS w' (some ⟨bl,o,none⟩) s.r):=J fun w5 hb5=>by
      obtain ⟨g1,hw1,hf1,hk1⟩:=HW.out.wq.thenF;have hto:((bs.drop a).take td).length=td:=by rw [List.length_take,List.length_drop,←HN.out];omega
      have htl:(s.r.take n1).length=n1:=by rw [List.length_take];omega
      have hbw:Hid (b<w.heap.size):=HBL;have SUB:=(zi.mid (zi.put S3.out W3.out HW.out.wq (fun k hk=>by cases hk;exact hbw.out)) a td (by rw [←HN.out];omega) (by rw [←HN.out];omega)).grow hb5;have hnf:¬xG pw g1 bl:=hf1 bl HBLL.out HNF.out;have hbsz:bl<w5.heap.size:=Nat.lt_of_lt_of_le HBLL.out (Nat.le_trans (zt.size HW.out.wq) hb5.size);have:=Jg (cr:=c) (cb:=cb-a) (bo:=some ⟨b,off+a,none⟩) (ao:=some ⟨bl,o,none⟩) (r:=s.r.take n1) (b:=(bs.drop a).take td) (hw1.grow hb5) ((P3.out.keep W3.out HW.out.wq).grow hb5) ((T3.out.put W3.out HW.out.wq hz).grow hb5) hz hwid
       ((V.KS.take HW.out.ks n1).on hb5) (fun b' off' e'=>by cases e';exact hbsz) (fun b' off' e'=>by cases e';exact hnf) (by rw [htl];omega) (fun t ht=>hok t (List.mem_of_mem_take ht)) (by rw [hto];exact SUB) (fun _ k hk=>by rw [hto] at hk;cases hk;exact hbw.out) (fun x hx=>HB.out x (List.mem_of_mem_drop (List.mem_of_mem_take hx))) (by rw [hto];omega) ls
      rw [htl,hto] at this;refine this.mono ?_;rintro e' w' ⟨rfl,hq⟩;refine ⟨rfl,?_,KS.put (HW.out.ks.on hb5) hq fun b' off' e'=>by cases e';exact hnf⟩
      rw [e1];simp only;rw [show decide (a+td=bs.length)=ls by rw [hls,hx,HN.out]];exact hk1 _ _ (Pq.back hb5 hq)
     have HO:=J (And.intro hO (And.intro hst e1));have hk1:IntKind.i64.wrap ((e:Int)-a)=(mo:Int):=by rw [IntKind.wrap_i64];omega
     have hk2:(e:Int)-a=(mo:Int):=by omega
     have hk3:IntKind.i64.wrap ((a:Int)+td)=(x:Int):=by rw [IntKind.wrap_i64];omega
     have hxa:x-a=td:=by omega
     have hm1:(n1:Int)≤c:=by have:=HW.out.len;omega
     have hm2:(a:Int)≤x:=by omega
     have hm3:(x:Int)≤cb:=by omega
     have hm4:¬cb=a:=by omega
     have hm5:(n1:Int)≤lr:=by omega
     have hm6:lr≤c:=by have:=HW.out.len;omega
     have hlast:((x:Int) == (n:Int))=ls:=by
      rw [hls];by_cases c:x=n
      ·subst c;simp
      ·rw [decide_eq_false c];simp;omega
     have HXX:=J (And.intro hx1 (And.intro hx2 (And.intro hx hls)));clear hO hst e1 hx1 hx2 hx3 hx4 hM hls htd hn1 hmo hUP hwide hkle hjle hwid hrl hok hbl9 HX hx;go_wp2_with fail
     with_reducible refine HUP.out.mono ?_
     rintro e' w5 ⟨rfl,hb5⟩;have HPB5:=J (HPB.out w5.drew (hb5.on (zf w5)));clear hk1 hk2 hb5 HUP HPB;go_wp2_with fail
     go_still_tail 16,(by kernel_rfl)
     change wpList _ _ _ _ _ w5.drew;go_wp2_with fail
     with_reducible refine HPB5.out.mono ?_
     rintro e' w6 ⟨rfl,hq,hks⟩;have HQ6:=J (And.intro hq hks);have hk4:(a:Int)+td=(x:Int):=by have:=HXX.out.2.2.1;omega
     have hle:=HW.out.len;have hxl:=HXX.out.1;clear hq hks HPB5 hxa hm2 hm3 hm4 hlast;have hd1:c=n1∨¬c=n1:=by omega
     have hd3:(x:Int)<e∨¬(x:Int)<e:=by omega
     clear hxl;rcases hd1 with hd1 | hd1
     all_goals
      have hd2:=hd1;rcases hd3 with hd3 | hd3
      all_goals
       go_wp2;go_roundw;case rel=>
        refine ⟨x,lr-n1,_,_,pk1 bs e s,_,rfl,by go_num,rfl,J ⟨?_,?_,?_,?_⟩,J ⟨HQ6.out.1,?_,?_⟩⟩
        ·rw [HO.out.2.2];simp only [List.length_drop];rw [HXX.out.1]
        ·rw [HO.out.2.2];exact HXX.out.2.2.1
        ·have h5:(pk1 bs e s).at_=x:=by rw [HO.out.2.2];exact HXX.out.2.2.1.symm
         have h6:=HO.out.2.1;rw [h5] at h6;first
          | exact h6.symm
          | (rw [decide_eq_true (by omega)] at h6;exact h6.symm)
        ·intro h
         have hlt9:x<e:=by
          first
           | omega
           | simpa using h
         have h5:(pk1 bs e s).at_=x:=by rw [HO.out.2.2];exact HXX.out.2.2.1.symm
         obtain ⟨j',h8⟩:=HO.out.1.2.2.2.2.1 (by rw [h5];have:=HN.out;omega);exact ⟨⟨j',_,h8⟩,hlt9⟩
        ·rw [HO.out.2.2]
         have h7:=HXX.out.1;first
          | exact ziW HQ6.out.2 n1 (by omega)
          | exact .inl (List.drop_eq_nil_of_le (by omega))
        ·rw [HO.out.2.2]
         have h7:=HXX.out.1;simp only [List.length_drop];omega
       case measure=>
        show 2*(lr-n1)+boF _<2*lr+1;have:=zgk (.bool true);refine Nat.lt_of_le_of_lt (Nat.add_le_add_left (zgk _) _) ?_;omega
  ·obtain rfl:i=E:=by omega
   have HPE:Hid (s=SF):=J (by
    have h5:=HX.out.2.2.1;rw [HEN.out,List.drop_length] at h5;exact h5)
   obtain ⟨g1,hw1,_⟩:=HW.out.wq.then;have c0:=(P3.out.keep W3.out HW.out.wq).a.o.cell;have HOU:=J (Wq.out hw1 (by rw [HPE.out];exact HFIN.out.1) (by rw [HPE.out];have:=HFIN.out.2;omega));clear hw1;go_wp2_with fail
   with_reducible refine HOU.out.mono ?_
   rintro e' w4 ⟨ao',c',rfl,hown,hbl⟩;have HF:=J (And.intro hown hbl);clear hown hbl HOU;go_wp2;go_ret;have hb1:Below w.heap.size w wr:=B3.out.trans (zt.low HW.out.wq W3.out);refine ⟨R,HA.out,HRF3.out,?_⟩;rw [←HSF.out,←HPE.out];exact ⟨ao',c',rfl,zz HF.out.1 hb1.size,hb1.trans (HF.out.2.mono hb1.size)⟩
end
def zdo:Go.Shelf.Ren:=⟨fun | 189=>52 | 125=>74 | 257=>73 | 128=>116 | 129=>117 | 294=>107 | 295=>108 | 296=>109 | 297=>110 | 298=>111 | 299=>112 | 216=>113 | 300=>114 | 301=>115 | 328=>142 | 329=>143 | 330=>144 | 331=>145 | 332=>146 | 215=>147 | 343=>169 | n=>n,fun | 28=>40 | 3=>3 | 46=>54 | 0=>0 | 51=>105 | 53=>161 | 4=>4 | 183=>165 | 182=>164 | 131=>71 | 5=>5 | 9=>9 | 218=>198 | 222=>202 | 228=>226 | 229=>102 | n=>n,fun | n=>n⟩
theorem zj5:Go.Proofs.Lays.n189 prog zdo:={
 mixed:=by kernel_rfl,
 f125:=func74.trans (congrArg some (by kernel_rfl)),
 f128:=func116.trans (congrArg some (by kernel_rfl)),
 f129:=func117.trans (congrArg some (by kernel_rfl)),
 f189:=func52.trans (congrArg some (by kernel_rfl)),
 f215:=func147.trans (congrArg some (by kernel_rfl)),
 f216:=func113.trans (congrArg some (by kernel_rfl)),
 f257:=func73.trans (congrArg some (by kernel_rfl)),
 f294:=func107.trans (congrArg some (by kernel_rfl)),
 f295:=func108.trans (congrArg some (by kernel_rfl)),
 f296:=func109.trans (congrArg some (by kernel_rfl)),
 f297:=func110.trans (congrArg some (by kernel_rfl)),
 f298:=func111.trans (congrArg some (by kernel_rfl)),
 f299:=func112.trans (congrArg some (by kernel_rfl)),
 f300:=func114.trans (congrArg some (by kernel_rfl)),
 f301:=func115.trans (congrArg some (by kernel_rfl)),
 f328:=func142.trans (congrArg some (by kernel_rfl)),
 f329:=func143.trans (congrArg some (by kernel_rfl)),
 f330:=func144.trans (congrArg some (by kernel_rfl)),
 f331:=func145.trans (congrArg some (by kernel_rfl)),
 f332:=func146.trans (congrArg some (by kernel_rfl)),
 f343:=func169.trans (congrArg some (by kernel_rfl)),
 t0:=underlying0,
 a0:=isAgg0,
 z0:=sizeOf0,
 v0:=zeroValue0,
 t3:=underlying3,
 a3:=isAgg3,
 z3:=sizeOf3,
 v3:=zeroValue3,
 t4:=underlying4,
 a4:=isAgg4,
 z4:=sizeOf4,
 v4:=zeroValue4,
 t5:=underlying5,
 a5:=isAgg5,
 z5:=sizeOf5,
 v5:=zeroValue5,
 t9:=underlying9,
 a9:=isAgg9,
 z9:=sizeOf9,
 v9:=zeroValue9,
 t28:=underlying40,
 a28:=isAgg40,
 z28:=sizeOf40,
 v28:=zeroValue40,
 t46:=underlying54,
 a46:=isAgg54,
 z46:=sizeOf54,
 v46:=zeroValue54,
 t51:=underlying105,
 a51:=isAgg105,
 z51:=sizeOf105,
 v51:=zeroValue105,
 t53:=underlying161,
 a53:=isAgg161,
 z53:=sizeOf161,
 v53:=zeroValue161,
 t131:=underlying71,
 a131:=isAgg71,
 z131:=sizeOf71,
 v131:=zeroValue71,
 t182:=underlying164,
 a182:=isAgg164,
 z182:=sizeOf164,
 v182:=zeroValue164,
 t183:=underlying165,
 a183:=isAgg165,
 z183:=sizeOf165,
 v183:=zeroValue165,
 t218:=underlying198,
 a218:=isAgg198,
 z218:=sizeOf198,
 v218:=zeroValue198,
 t222:=underlying202,
 a222:=isAgg202,
 z222:=sizeOf202,
 v222:=zeroValue202,
 t228:=underlying226,
 a228:=isAgg226,
 z228:=sizeOf226,
 v228:=zeroValue226,
 t229:=underlying102,
 a229:=isAgg102,
 z229:=sizeOf102,
 v229:=zeroValue102 }
def zbq:Go.Shelf.Ren:=⟨fun | 15=>51 | n=>n,fun | 22=>40 | 3=>3 | 4=>4 | n=>n,fun | n=>n⟩
theorem zbD:Go.Proofs.Lays2.n15 prog zbq:={
 mixed:=by kernel_rfl,
 f15:=func51.trans (congrArg some (by kernel_rfl)),
 t3:=underlying3,
 a3:=isAgg3,
 z3:=sizeOf3,
 v3:=zeroValue3,
 t4:=underlying4,
 a4:=isAgg4,
 z4:=sizeOf4,
 v4:=zeroValue4,
 t22:=underlying40,
 a22:=isAgg40,
 z22:=sizeOf40,
 v22:=zeroValue40,
 i3:=by kernel_rfl }
def zdn:Go.Shelf.Ren:=⟨fun | 20=>53 | n=>n,fun | 22=>40 | 3=>3 | 4=>4 | 0=>0 | n=>n,fun | n=>n⟩
theorem zjZ:Go.Proofs.Lays2.n20 prog zdn:={
 mixed:=by kernel_rfl,
 f20:=func53.trans (congrArg some (by kernel_rfl)),
 t0:=underlying0,
 a0:=isAgg0,
 z0:=sizeOf0,
 v0:=zeroValue0,
 t3:=underlying3,
 a3:=isAgg3,
 z3:=sizeOf3,
 v3:=zeroValue3,
 t4:=underlying4,
 a4:=isAgg4,
 z4:=sizeOf4,
 v4:=zeroValue4,
 t22:=underlying40,
 a22:=isAgg40,
 z22:=sizeOf40,
 v22:=zeroValue40,
 i3:=by kernel_rfl }
def zhi:Go.Shelf.Ren:=⟨fun | 10=>50 | 6=>72 | n=>n,fun | 22=>40 | 23=>3 | 25=>52 | 3=>3 | 4=>4 | 0=>0 | n=>n,fun | n=>n⟩
theorem zmH:Go.Proofs.SlLaysH.n10 prog zhi:={
 mixed:=by kernel_rfl,
 f6:=⟨Tryz.f72.name,by decide,func72.trans (congrArg some (by kernel_rfl))⟩,
 f10:=⟨Tryz.f50.name,by decide,func50.trans (congrArg some (by kernel_rfl))⟩,
 t0:=underlying0,
 a0:=isAgg0,
 z0:=sizeOf0,
 v0:=zeroValue0,
 t3:=underlying3,
 a3:=isAgg3,
 z3:=sizeOf3,
 v3:=zeroValue3,
 t4:=underlying4,
 a4:=isAgg4,
 z4:=sizeOf4,
 v4:=zeroValue4,
 t22:=underlying40,
 a22:=isAgg40,
 z22:=sizeOf40,
 v22:=zeroValue40,
 a23:=isAgg3,
 z23:=sizeOf3,
 t25:=underlying52,
 a25:=isAgg52,
 z25:=sizeOf52,
 v25:=zeroValue52 }
end Go.Proofs.YtacpfpghokcdlaaGreatDoor
