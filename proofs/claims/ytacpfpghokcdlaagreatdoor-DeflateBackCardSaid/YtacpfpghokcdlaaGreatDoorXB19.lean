/- Part 19. -/
import Derived.Test.YtacpfpghokcdlaaGreatDoorXB18
open Go.Proofs.Tryz
namespace Go.Proofs.YtacpfpghokcdlaaGreatDoor.V
set_option maxRecDepth 100000
section
open Go.Lib renaming hid → J
open Go.RowKit Go.Maps
def sg (bs:List Nat) (i j:Nat):Value:=if j%3=0 then .int .u8 ((if j/3<i then bs.getD (j/3) 0 else 0:Nat):Int) else .int .i64 0
theorem zg9 (bs:List Nat) (n:Nat):va (n*3) (fun i=>(Value.agg #[.int .u8 0,.int .i64 0,.int .i64 0]).cells[i%(Value.agg #[.int .u8 0,.int .i64 0,.int .i64 0]).cells.size]!)=va (n*3) (sg bs 0):=by
 refine zq fun i _=>?_
 have hc:(Value.agg #[.int .u8 0,.int .i64 0,.int .i64 0]).cells = #[.int .u8 0,.int .i64 0,.int .i64 0]:=rfl;rw [hc];unfold sg;have h3:i%3=0∨i%3=1∨i%3=2:=by omega
 rcases h3 with h | h | h <;> simp [h]
theorem zh5 (bs:List Nat) (n i:Nat):(va n (sg bs i)).setIfInBounds (i*3) (.int .u8 (bs.getD i 0:Nat))=va n (sg bs (i+1)):=by
 rw [qF];refine zq fun j _=>?_
 split
 ·rename_i h
  subst h;unfold sg;rw [if_pos (by omega),Nat.mul_div_cancel _ (by omega),if_pos (Nat.lt_succ_self _)]
 ·rename_i h
  unfold sg;split
  ·have:j/3≠i:=by omega
   by_cases hj:j/3<i
   ·rw [if_pos hj,if_pos (by omega)]
   ·rw [if_neg hj,if_neg (by omega)]
  ·rfl
def lits (bs:List Nat):List M.Tok:=bs.map fun x=>⟨x,0,0⟩
theorem vs (bs:List Nat):∀ l,M.ex (lits bs) l=some (l++bs):=by
 induction bs with
 | nil=>intro l;rw [List.append_nil];rfl
 | cons x bs ih=>
  intro l;rw [show lits (x::bs)=⟨x,0,0⟩::lits bs from rfl,M.ex,if_pos ⟨.inl ⟨rfl,rfl⟩,Nat.zero_le _⟩,show M.one ⟨x,0,0⟩ l=l++[x] from by unfold M.one;rw [if_pos rfl],ih];simp
theorem zaR (bs:List Nat) (j:Nat) (v:Value) (h:(tcl (lits bs))[j]? = some v):v=sg bs bs.length j∧j<bs.length*3:=by
 have hj:j<bs.length*3:=by
  have:=(List.getElem?_eq_some_iff.1 h).1;rw [yJ] at this;simpa [lits] using this
 refine ⟨?_,hj⟩;obtain ⟨h1,h2,h3⟩:=zfA (lits bs) (j/3) (by simp [lits];omega);have hk:tk (lits bs) (j/3)=⟨bs.getD (j/3) 0,0,0⟩:=by
  unfold tk lits;have:j/3<bs.length:=by omega
  simp [List.getD_eq_getElem?_getD,List.getElem?_eq_getElem this]
 rw [hk] at h1 h2 h3;have hm:j%3=0∨j%3=1∨j%3=2:=by omega
 unfold sg;rcases hm with e | e | e
 ·rw [show j/3*3=j by omega,h] at h1
  cases h1;rw [if_pos e,if_pos (by omega)]
 ·rw [show j/3*3+1=j by omega,h] at h2
  cases h2;rw [if_neg (by omega)];rfl
 ·rw [show j/3*3+2=j by omega,h] at h3
  cases h3;rw [if_neg (by omega)];rfl
set_option maxHeartbeats 1600000 in
theorem kB (v:Value) (bs:List Nat) (w:World) (h:zi w v bs) (hb:Bs bs) (hl:bs.length≤30000) :
  Calls prog 82 #[v] w fun e w'=>∃ ao c,e=.returned (.slice ao (lits bs).length c)∧KS w' ao (lits bs)∧Below w.heap.size w w'∧((lits bs).length≤c∧(ao=none→c=0)):=by
 obtain ⟨ao,c,rfl⟩:=qp h;have HS:=J h;have HB:=J hb;obtain ⟨L,hL⟩:=exq (bs.length);have HL:=J hL;rw [←hL] at hl ⊢;obtain ⟨g,hg⟩:=exq (w.heap.size);have HG:=J hg;clear h hb hL;go_enter func82,ntmps82;go_wp2_with (refine zy rfl 99 _ _ rfl 128 (.agg #[.int .u8 0,.int .i64 0,.int .i64 0]) 3 24 L underlying99 (by kernel_rfl) _ _ (L:Int) (L:Int) rfl rfl rfl rfl (by omega) (by omega) ?_;intro W1 hb1 ht1 hs1;rw [←hg] at hb1 ⊢;rw [zg9 bs L] at hb1;have HK1:=J hb1;have HT1:=J ht1;clear hb1 ht1 hs1 hg);go_loopg [11] (L+1) (fun gm v11 wr=>∃ i:Nat,i≤L∧L+1-i≤gm∧v11=.int .i64 (i:Nat)∧Hid (Blk wr g 128 (va (L*3) (sg bs i))∧Below w.heap.size w wr))
 case atStart=>exact ⟨0,Nat.zero_le _,Nat.le_refl _,rfl,J ⟨HK1.out,HT1.out.none_below⟩⟩
 case round=>
  clear HK1 HT1;obtain ⟨i,hi,hgm,rfl,HX⟩:=hrel;by_cases hlt:i<L
  ·have hlt':(i:Int)<L:=by omega
   obtain ⟨bk,off,rfl,k1⟩:=xd (Xt HS.out HX.out.2) i (by rw [←HL.out];exact hlt);obtain ⟨y,hy⟩:=exq (bs.getD i 0);rw [←hy] at k1;have HY:=J hy;have x0:=(HX.out.1.cell (i*3)).trans (zw _ _ (i*3) (by omega));obtain ⟨z,hz⟩:∃ z,sg bs i (i*3)=.int .u8 z:=by unfold sg;rw [if_pos (by omega)];exact ⟨_,rfl⟩
   rw [hz] at x0;have f0:=HX.out.1.free (i*3);have e1:IntKind.i64.wrap ((i:Int)*3)=(i:Int)*3:=by rw [IntKind.wrap_i64];omega
   clear hy hz;go_wp2;go_roundg (L+1-(i+1))
   case measure=>omega
   case rel=>
    refine ⟨i+1,by omega,Nat.le_refl _,by simp,J ⟨?_,?_⟩⟩
    ·have:=HX.out.1.setCell (i*3) (.int .u8 (y:Nat))
     rw [HY.out,zh5] at this;rw [HY.out];exact this
    ·have ht:Touch (fun k=>k=g) wr (wr.setCell ⟨g,i*3,none⟩ (.int .u8 (y:Nat))):=(Touch.refl _ wr).setCell _ _ (.inl rfl)
     exact HX.out.2.trans (ht.below HX.out.2.size fun k hk=>by rw [hk,HG.out];exact Nat.le_refl _)
  ·obtain rfl:i=L:=by omega
   go_wp2;go_ret;have hll:(lits bs).length=i:=by rw [HL.out];simp [lits]
   rw [hll];refine ⟨_,_,rfl,.inr ⟨g,0,rfl,fun j u hu=>?_⟩,HX.out.2,by exact ⟨Nat.le_refl _,fun e=>by cases e⟩⟩
   obtain ⟨rfl,hj⟩:=zaR bs j u hu;rw [Nat.zero_add,HX.out.1.cell,zw _ _ _ (by rw [HL.out];exact hj),HL.out]
end
end Go.Proofs.YtacpfpghokcdlaaGreatDoor.V
namespace Go.Proofs.YtacpfpghokcdlaaGreatDoor
set_option maxRecDepth 100000
section
open Go.Lib renaming hid → J
open Go.RowKit
theorem zkC (w:World) (t:Tok):(w.alloc (.cells #[.int .u8 (t.lit:Nat),.int .i64 (t.len:Nat),.int .i64 (t.dist:Nat)] 128)).ownsRow w.heap.size 128 3 (.slice (some ⟨w.heap.size,0,none⟩) 1 1) 1 (V.tcl [t]):=
 ⟨rfl,.inr ⟨w.heap.size,1,#[.int .u8 (t.lit:Nat),.int .i64 (t.len:Nat),.int .i64 (t.dist:Nat)],rfl,Nat.le_refl _,Blk.made w 128 _,Nat.le_refl _,by unfold maxLen;omega,rfl,rfl⟩⟩
theorem UU {w:World}{base e sz n c:Nat}{ao:Option Addr}{xs:List Value}(h:w.ownsRow base e sz (.slice ao n c) n xs):zI w (.slice ao n c) n xs:=by
 rcases h.2 with ⟨h1,h2⟩ | ⟨g,cap,cur,he,hbg,hh,hnc,hcm,hcs,htake⟩
 ·exact .inl ⟨h1,h2,List.eq_nil_of_length_eq_zero (by rw [h.1,h2,Nat.zero_mul])⟩
 ·simp only [Value.slice.injEq] at he
  obtain ⟨rfl,_,rfl⟩:=he;refine .inr ⟨⟨g,0,none⟩,c,rfl,fun j u hu=>?_⟩;have hj:j<n*sz:=by
   have:=(List.getElem?_eq_some_iff.1 hu).1;rwa [h.1] at this
  rw [Addr.add_lit,Nat.zero_add,World.ownsRow.cellAt h j hj,hu]
set_option maxHeartbeats 1600000 in
theorem zfE (l L d cb:Nat) (bo:Option Addr) (b:List Nat) (w:World) (hs:zi w (.slice bo b.length cb) b) (hbl:b.length≤1000000) :
  Calls prog 81 #[.agg #[.int .u8 (l:Nat),.int .i64 (L:Nat),.int .i64 (d:Nat)],.slice bo b.length cb] w fun e w'=>∃ ao c,e=.returned (.slice ao (ka d b).length c)∧w'.ownsRow w.heap.size 128 3 (.slice ao (ka d b).length c) (ka d b).length (V.tcl (ka d b))∧Below w.heap.size w w':=by
 have HS:=J hs;obtain ⟨M,hM⟩:=exq (b.length);have HM:=J hM;rw [←hM] at hbl ⊢;obtain ⟨W1,hW1⟩:=exq (w.alloc (.cells #[.int .u8 (l:Nat),.int .i64 (L:Nat),.int .i64 (d:Nat)] 128));have HB1:Hid (Below w.heap.size w W1):=J (by rw [hW1];exact (Below.refl _ _).alloc (Nat.le_refl _) _);have S1:=J (HS.out.grow HB1.out);obtain ⟨bx,hbx⟩:=exq (w.heap.size);have x2:W1.cell? ⟨bx,2,none⟩=some (.int .i64 (d:Nat)):=by rw [hW1,hbx,(Blk.made w 128 _).cell];rfl
 obtain ⟨PF,hPF⟩:=exq (ka d b);have HPF:=J hPF;rw [←hPF];clear hs hM hPF;by_cases h3:3≤M
 ·have h3':(3:Int)≤M:=by omega
  have HP:Hid (PF=[⟨0,M,d⟩]):=J (by rw [HPF.out];unfold ka;rw [←HM.out,if_pos h3]);go_enter func81,ntmps81;go_upto_region 1 with fail
  rw [←hW1,←hbx];clear hW1 hbx;go_wp2;go_ret;rw [HP.out];exact ⟨_,_,rfl,zz (zkC W1 ⟨0,M,d⟩) HB1.out.size,HB1.out.more (Nat.le_refl _) _⟩
 ·have h3':¬((3:Int)≤M):=by omega
  have HP:Hid (PF=b.map fun c=>⟨c,0,0⟩):=J (by rw [HPF.out];unfold ka;rw [←HM.out,if_neg h3]);go_enter func81,ntmps81;go_upto_region 1 with fail
  rw [←hW1,←hbx];clear hW1 hbx x2;go_wp2;go_loopw [5,19] (fun v5 v19 wr=>∃ (i:Nat) (ao:Option Addr) (c:Nat),i≤M∧v5=.slice ao i c∧v19=.int .i64 (i:Nat)∧Hid (wr.ownsRow w.heap.size 128 3 (.slice ao i c) i (V.tcl ((b.take i).map fun c=>⟨c,0,0⟩))∧Below w.heap.size w wr)) (fun _ v19 _=>M-(intOf v19).toNat)
  case atStart=>exact ⟨0,none,0,Nat.zero_le _,rfl,rfl,J ⟨⟨rfl,.inl ⟨rfl,rfl⟩⟩,HB1.out⟩⟩
  case round=>
   obtain ⟨i,ao,c,hi,rfl,rfl,HX⟩:=hrel;by_cases hlt:i<M
   ·have hlt':(i:Int)<M:=by omega
    obtain ⟨bk,off,rfl,k1⟩:=V.xd (HS.out.grow HX.out.2) i (by rw [←HM.out];exact hlt);obtain ⟨y,hy⟩:=exq (b.getD i 0);rw [←hy] at k1;have HAPP:Hid (∀ ao2 cc2 w5,Apg (wr.alloc (.cells #[.int .u8 (y:Nat),.int .i64 0,.int .i64 0] 128)) w.heap.size 128 3 (.slice ao i c) (i+1) (V.tcl ((b.take i).map fun c=>⟨c,0,0⟩)++V.tcl [⟨y,0,0⟩]) (.slice ao2 (i+1) cc2) w5→w5.ownsRow w.heap.size 128 3 (.slice ao2 (i+1) cc2) (i+1) (V.tcl ((b.take (i+1)).map fun c=>⟨c,0,0⟩))∧Below w.heap.size w w5):=J fun ao2 cc2 w5 hA=>by
     refine ⟨?_,HX.out.2.trans (hA.alloc.below HX.out.1 HX.out.2.size)⟩;have e:b.take (i+1)=b.take i++[y]:=by
      have hib:i<b.length:=by rw [←HM.out];exact hlt
      rw [List.take_succ_eq_append_getElem hib,hy,List.getD_eq_getElem?_getD,List.getElem?_eq_getElem hib];rfl
     rw [e,List.map_append,←V.uj];exact hA.own
    have hll:(V.tcl ((b.take i).map fun c=>(⟨c,0,0⟩:Tok))).length=i*3:=by rw [V.yJ,List.length_map,List.length_take];have:=HM.out;omega
    have HLL:=J hll;have hsz:=HX.out.2.size;clear hy hll;go_wp2_with (refine ze V.zbc rfl (.tmp 23) (.tmp 26) rfl w.heap.size (.slice ao i c) (.slice (some ⟨wr.heap.size,0,none⟩) 1 1) i 1 (V.tcl ((b.take i).map fun c=>⟨c,0,0⟩)) (V.tcl [⟨y,0,0⟩]) rfl rfl (World.ownsRow.alloc (w:=wr) HX.out.1 _) (V.u0 wr 128 _ _ _) rfl (V.QG _) (by simp;omega) (by omega) (by omega) ?_;intro ao2 cc2 w6 hA;have HT6:=J (HAPP.out ao2 cc2 w6 hA);clear hA)
    go_roundw;case rel=>exact ⟨i+1,ao2,cc2,by omega,rfl,by go_num,HT6⟩
    case measure=>simp [intOf];omega
   ·obtain rfl:i=M:=by omega
    have hpl:PF.length=i:=by rw [HP.out,List.length_map,←HM.out]
    have hpf:PF=(b.take i).map fun c=>⟨c,0,0⟩:=by rw [HP.out,HM.out,List.take_length]
    go_wp2;go_ret;rw [hpl,hpf];exact ⟨ao,c,rfl,HX.out.1,HX.out.2⟩
theorem Ob.walign {w:World}{base p:Nat}{g:Option Nat}{bs:List Nat}{n:Nat}(h:Ob w base 118 p g bs n) (hl:bs.length≤1000000000) :
  Calls prog 69 #[.pointer (some ⟨p,0,none⟩)] w fun e w'=>e=.returned (.tuple #[])∧qB w base 118 p g bs (8*bs.length) w':=by
 obtain ⟨sv,h1,_,h3⟩:=h.blk;obtain ⟨ao,c,rfl⟩:=zr h3;obtain ⟨c0,c1,f0,f1⟩:=zX h1;have HM:=J (qB.mk' h 0 (8*bs.length) (x:=(bs.length:Int)*8) (by omega));clear h1 h h3;go_enter func69,ntmps69;go_wp2;go_end0;exact ⟨rfl,HM.out⟩
set_option maxHeartbeats 400000 in
theorem Ob.wraw {w:World}{base p:Nat}{g:Option Nat}{bs:List Nat}{n:Nat}{sv:Value}{ys:List Nat}(h:Ob w base 118 p g bs n) (hs:zi w sv ys) (hy:Bs ys) (hl:bs.length+ys.length≤1000000000) :
  Calls prog 71 #[.pointer (some ⟨p,0,none⟩),sv] w fun e w'=>e=.returned (.tuple #[])∧UZ w base 118 p g (bs++ys) (8*(bs++ys).length) w':=by
 obtain ⟨fv,h1,hg,h3⟩:=h.blk;subst hg;have hlt:=h.lt.1;have hbase:=h.hp;obtain ⟨ao,c,rfl⟩:=zr h3;obtain ⟨c0,c1,f0,f1⟩:=zX h1;have HB:=J h1;have H:=J h;have HS:=J hs;have HY:=J hy;have HO:=J h3;clear h1 h hs hy h3;go_enter func71,ntmps71;go_wp2_with (at_builtin;refine zx rfl (.tmp 8) (.tmp 9) rfl base (.slice ao bs.length c) sv bs ys rfl rfl HO.out HS.out (by omega) (by omega) ?c1);case c1=>
  intro ao' c' w1 hA;have hG:=Xo H.out hA (H.out.hb.app HY.out) HB.out;obtain ⟨d0,d1,e0,e1⟩:=zX hG.1;have hG2:=hG.2;obtain ⟨g1,ho,ht,hr⟩:=hG2;have HO1:=J ho;have HT1:=J ht;have HR1:=J hr;clear hG hA ho ht hr;go_wp2_with (go_at_call 69;refine (HO1.out.walign (by rw [List.length_append];exact hl)).mono ?_;rintro e w' ⟨rfl,hm⟩);go_end0;exact ⟨rfl,UZ.on HO1.out HT1.out HR1.out hm.grew⟩
theorem Wr.raw {w:World}{base p:Nat}{g:Option Nat}{N n:Nat}{sv:Value}{ys:List Nat}(h:Wr w base p g N n) (hs:zi w sv ys) (hy:Bs ys) (hn:n≤7000000000) (hl:ys.length≤1000000) (N' n':Nat) (hN:N+num ys*2^up8 n=N') (hn':up8 n+8*ys.length=n') :
  Calls prog 71 #[.pointer (some ⟨p,0,none⟩),sv] w fun e w'=>e=.returned (.tuple #[])∧zt w base p g N' n' w':=by
 subst hN;subst hn';obtain ⟨bs,ho,hw,rfl⟩:=h;have hsm:=hw.small hn;refine (ho.wraw hs hy (by omega)).mono ?_;rintro e w' ⟨rfl,g',ho',ht',hr⟩;have e1:up8 n+8*ys.length=8*(bs++ys).length:=by rw [hw.up,List.length_append];omega
 have e2:num bs+num ys*2^up8 n=num (bs++ys):=by rw [yY,hw.up,xr,Nat.mul_comm]
 rw [e1,e2];exact ⟨rfl,g',⟨bs++ys,ho',⟨Nat.le_refl _,by omega,by have:=uD ho'.hb;rw [xr] at this;exact this⟩,rfl⟩,ht',hr⟩
theorem Wr.align {w:World}{base p:Nat}{g:Option Nat}{N n:Nat}(h:Wr w base p g N n) (hn:n≤7000000000) (n':Nat) (hn':up8 n=n') :
  Calls prog 69 #[.pointer (some ⟨p,0,none⟩)] w fun e w'=>e=.returned (.tuple #[])∧zt w base p g N n' w':=by
 subst hn';obtain ⟨bs,ho,hw,rfl⟩:=h;have hsm:=hw.small hn;refine (ho.walign (by omega)).mono ?_;rintro e w' ⟨rfl,hm⟩;obtain ⟨g',ho',ht',hr⟩:=hm.grew;rw [hw.up];exact ⟨rfl,g',⟨bs,ho',⟨Nat.le_refl _,by omega,by have:=uD ho'.hb;rw [xr] at this;exact this⟩,rfl⟩,ht',hr⟩
theorem Wr.len {w:World}{base p:Nat}{g:Option Nat}{N n:Nat}(h:Wr w base p g N n) :
  Calls prog 130 #[.pointer (some ⟨p,0,none⟩)] w fun e w'=>e=.returned (.int .i64 n)∧w=w':=by
 obtain ⟨bs,ho,hw,_⟩:=h;obtain ⟨sv,h1,_,h3⟩:=ho.blk;obtain ⟨c0,c1,f0,f1⟩:=zX h1;clear h1 h3 ho hw;go_enter func130,ntmps130;go_wp2;go_ret;exact ⟨rfl,rfl⟩
section
variable {w w1 w2:World}{base p:Nat}{g:Option Nat}{N n M m:Nat}
theorem zt.refl (h:Wr w base p g N n):zt w base p g N n w:=⟨g,h,Touch.refl _ _,fun _ h => .inl h⟩
theorem Wr.grow (h:Wr w base p g N n) (hb:Below w.heap.size w w1):Wr w1 base p g N n:=h.touch (Touch.of_below hb:Touch (fun _=>False) w w1) fun _ _ h=>h
theorem zt.grow (h:zt w base p g N n w1) (hb:Below w1.heap.size w1 w2):zt w base p g N n w2:=by
 obtain ⟨g',h1,h2,h3⟩:=h;exact ⟨g',h1.grow hb,h2.trans ((Touch.of_below hb:Touch (fun _=>False) w1 w2).mono fun _ h=>h.elim),h3⟩
theorem zt.then (h:zt w base p g N n w1):∃ g1,Wr w1 base p g1 N n∧∀ (M m:Nat) (w2:World),zt w1 base p g1 M m w2→zt w base p g M m w2:=by
 obtain ⟨g1,h1,h2,h3⟩:=h;refine ⟨g1,h1,fun M m w2 k=>?_⟩;obtain ⟨g2,k1,k2,k3⟩:=k;refine ⟨g2,k1,h2.trans' k2 ?_,fun k hk=>?_⟩
 ·intro i hi hlt
  rcases hi with rfl | hi
  ·exact .inl rfl
  ·rcases h3 i hi with h | h
   ·exact .inr h
   ·omega
 ·rcases k3 k hk with h | h
  ·exact h3 k h
  ·exact .inr (Nat.le_trans h2.size h)
theorem zt.size (h:zt w base p g N n w1):w.heap.size≤w1.heap.size:=by obtain ⟨_,_,h2,_⟩:=h;exact h2.size
theorem zt.low (h:zt w base p g M m w1) (hw:Wr w base p g N n):Below base w w1:=by
 obtain ⟨_,_,h2,_⟩:=h;have hb:base≤w.heap.size:=by have:=hw.foot (k:=p) (.inl rfl);omega
 exact h2.below hb fun k hk=>(hw.foot hk).1
theorem Wr.off (h:Wr w base p g N n){b:Nat}{t:TypeId}{cs:Array Value}(hb:Blk w b t cs) (h1:t≠118) (h2:t≠5):¬xG p g b:=by
 obtain ⟨bs,ho,_⟩:=h;obtain ⟨sv,k1,k2,k3⟩:=ho.blk;intro hf;rcases hf with rfl | hf
 ·rw [Blk,k1] at hb
  simp at hb;exact h1 hb.2.symm
 ·rcases k3.2 with ⟨rfl,_⟩ | ⟨g',cap,cur,rfl,_,hh,_⟩
  ·rw [←k2] at hf;simp [Value.ownBlock] at hf
  ·rw [←k2] at hf
   simp [Value.ownBlock] at hf;subst hf;rw [Blk,hh] at hb;simp at hb;exact h2 hb.2.symm
theorem zt.blk (h:zt w base p g M m w1) (hw:Wr w base p g N n){b:Nat}{t:TypeId}{cs:Array Value}(hb:Blk w b t cs) (h1:t≠118) (h2:t≠5):Blk w1 b t cs:=by
 obtain ⟨_,_,k,_⟩:=h;exact hb.touch k (hw.off hb h1 h2)
theorem zt.code (h:zt w base p g M m w1) (hw:Wr w base p g N n){c:Nat}{ls:List Nat}(hc:zg w c ls):zg w1 c ls:=by
 obtain ⟨ho,gw,go,F,k1,k2,k3,k4⟩:=hc;exact ⟨ho,gw,go,F,h.blk hw k1 (by decide) (by decide),h.blk hw k2 (by decide) (by decide),h.blk hw k3 (by decide) (by decide),k4⟩
end
def Wq (w:World) (base p:Nat) (g:Option Nat) (P:List (Nat × Nat)):Prop:=Wr w base p g (val P) (wid P)
def Pq (w:World) (base p:Nat) (g:Option Nat) (P:List (Nat × Nat)) (w':World):Prop:=zt w base p g (val P) (wid P) w'
theorem Pq.then {w w1:World}{base p:Nat}{g:Option Nat}{P:List (Nat × Nat)}(h:Pq w base p g P w1):∃ g1,Wq w1 base p g1 P∧∀ (Q:List (Nat × Nat)) (w2:World),Pq w1 base p g1 Q w2→Pq w base p g Q w2:=by
 obtain ⟨g1,h1,h2⟩:=zt.then h;exact ⟨g1,h1,fun Q w2 k=>h2 _ _ w2 k⟩
theorem Pq.grow {w w1 w2:World}{base p:Nat}{g:Option Nat}{P:List (Nat × Nat)}(h:Pq w base p g P w1) (hb:Below w1.heap.size w1 w2):Pq w base p g P w2:=zt.grow h hb
theorem Pq.refl {w:World}{base p:Nat}{g:Option Nat}{P:List (Nat × Nat)}(h:Wq w base p g P):Pq w base p g P w:=zt.refl h
section
variable {w:World}{base p:Nat}{g:Option Nat}{P:List (Nat × Nat)}
theorem Wq.put (h:Wq w base p g P) (hn:wid P≤7000000000) (v:Int) (k X:Nat) (hv:v=(X:Int)) (hk:k≤32) (hX:X<2^k) :
  Calls prog 70 #[.pointer (some ⟨p,0,none⟩),.int .u32 v,.int .i64 k] w fun e w'=>e=.returned (.tuple #[])∧Pq w base p g (P++[(X,k)]) w':=by
 subst hv;have h32:2^k≤2^32:=Nat.pow_le_pow_right (by omega) hk;refine (Wr.put h hn X k X (by omega) hk (Nat.mod_eq_of_lt hX)).mono ?_;rintro e w' ⟨rfl,hp⟩;refine ⟨rfl,?_⟩;unfold Pq;rw [yS,zh,(zR X k).1,(zR X k).2,Nat.mul_comm];exact hp
theorem Wq.put0 (h:Wq w base p g P) (hn:wid P≤7000000000) (v:Nat) (hv:v<4294967296) :
  Calls prog 70 #[.pointer (some ⟨p,0,none⟩),.int .u32 v,.int .i64 (0:Nat)] w fun e w'=>e=.returned (.tuple #[])∧Pq w base p g P w':=by
 refine (Wr.put h hn v 0 0 hv (by omega) (Nat.mod_one v)).mono ?_;rintro e w' ⟨rfl,hp⟩;refine ⟨rfl,?_⟩;unfold Pq;simpa using hp
set_option maxHeartbeats 800000 in
theorem Wq.sym (h:Wq w base p g P) (hn:wid P≤7000000000){c:Nat}{ls:List Nat}(hc:zg w c ls) (s:Nat) (hs:ln ls s≠0) :
  Calls prog 132 #[.pointer (some ⟨c,0,none⟩),.pointer (some ⟨p,0,none⟩),.int .i64 s] w fun e w'=>e=.returned (.bool true)∧Pq w base p g (P++[cp ls s]) w':=by
 have HC:=J hc;have HW:=J h;have hr:=zlC hc.ok hs;obtain ⟨V,hV⟩:=exq (rv (ln ls s) (cd ls s));obtain ⟨m,hm⟩:=exq (ln ls s);have hm32:m≤32:=by have:=z6 hc.ok s;omega
 have HS:=J hs;have hVm:V<2^m:=by rw [hV,hm];exact ve _ _
 have HVM:=J hVm;have HP:Hid (P++[cp ls s]=P++[(V,m)]):=J (by rw [hV,hm];rfl);have HV:=J hV.symm;have HM:=J hm.symm;clear h hc hr hV hm hs hVm;go_enter func132,ntmps132;go_wp2_with (first
  | (go_at_call 163;(refine (zho c s ls _ HC.out HS.out V m HV.out HM.out).mono ?_);rintro e w2 ⟨rfl,nq,hw2⟩;have hb2:=below_drewN (Below.refl w.heap.size w) nq;rw [←hw2] at hb2;have HB2:=J hb2;clear hw2 hb2)
  | (go_at_call 70;(refine (Wq.put (show Wq _ base p g P from Wr.grow HW.out HB2.out) hn (V:Int) m V rfl hm32 HVM.out).mono ?_);rintro e w3 ⟨rfl,hw3⟩;have HW3:=J (Pq.then (Pq.grow (Pq.refl HW.out) HB2.out));have HW4:=J hw3;clear hw3))
 go_ret;refine ⟨rfl,?_⟩;rw [HP.out];obtain ⟨g',k1,k2,k3⟩:=HW4.out;have hT:Touch (fun _=>False) w w2:=Touch.of_below HB2.out;exact ⟨g',k1,(hT.mono fun _ h=>h.elim).trans k2,fun k hk=>(k3 k hk).imp id fun h=>Nat.le_trans hT.size h⟩
end
def PkO (w:World) (pk pw:Nat):Prop:=∃ cs,Blk w pk 91 cs∧cs[0]? = some (.pointer (some ⟨pw,0,none⟩))
theorem PkO.cell {w:World}{pk pw:Nat}(h:PkO w pk pw):w.cell? ⟨pk,0,none⟩=some (.pointer (some ⟨pw,0,none⟩)):=by
 obtain ⟨cs,h1,h2⟩:=h;rw [h1.cell,h2]
theorem PkO.keep {w w1:World}{base pw pk:Nat}{g:Option Nat}{P Q:List (Nat × Nat)}(h:PkO w pk pw) (hw:Wq w base pw g P) (hq:Pq w base pw g Q w1):PkO w1 pk pw:=by
 obtain ⟨cs,h1,h2⟩:=h;exact ⟨cs,zt.blk hq hw h1 (by decide) (by decide),h2⟩
theorem PkO.grow {w w1:World}{pw pk:Nat}(h:PkO w pk pw) (hb:Below w.heap.size w w1):PkO w1 pk pw:=by
 obtain ⟨cs,h1,h2⟩:=h;exact ⟨cs,h1.below hb,h2⟩
set_option maxHeartbeats 800000 in
theorem kP {w:World}{base pw pk:Nat}{g:Option Nat}{P:List (Nat × Nat)}(h:Wq w base pw g P) (ho:PkO w pk pw) (hn:wid P≤6000000000) (last:Bool) (k:Nat) (hk:k<4) :
  Calls prog 68 #[.pointer (some ⟨pk,0,none⟩),.bool last,.int .u32 k] w fun e w'=>e=.returned (.tuple #[])∧Pq w base pw g (P++[(lb last,1),(k,2)]) w':=by
 have HW:=J h;have HO:=J ho;have c0:=ho.cell;have HK:Hid (P++[(lb last,1),(k,2)]=(P++[(lb last,1)])++[(k,2)]):=J (by simp);have HN:Hid (wid (P++[(lb last,1)])≤7000000000):=J (by rw [zh,(zR _ _).2];omega);clear h ho;cases last
 ·have hl:lb false=0:=rfl
  go_enter func68,ntmps68;go_wp2_with fail
  refine (HW.out.put (by omega) 0 1 (lb false) rfl (by omega) (by decide)).mono ?_;rintro e w1 ⟨rfl,hq⟩;obtain ⟨g1,hw1,hk1⟩:=hq.then;have HW1:=J hw1;have HK1:=J hk1;have c1:=(HO.out.keep HW.out hq).cell;clear hq hw1 hk1;go_wp2_with fail
  refine (HW1.out.put HN.out k 2 k rfl (by omega) (by omega)).mono ?_;rintro e w2 ⟨rfl,hq⟩;have HQ:=J (HK1.out _ _ hq);clear hq;go_wp2;go_end0;exact ⟨rfl,by rw [HK.out];exact HQ.out⟩
 ·have hl:lb true=1:=rfl
  go_enter func68,ntmps68;go_wp2_with fail
  refine (HW.out.put (by omega) 1 1 (lb true) rfl (by omega) (by decide)).mono ?_;rintro e w1 ⟨rfl,hq⟩;obtain ⟨g1,hw1,hk1⟩:=hq.then;have HW1:=J hw1;have HK1:=J hk1;have c1:=(HO.out.keep HW.out hq).cell;clear hq hw1 hk1;go_wp2_with fail
  refine (HW1.out.put HN.out k 2 k rfl (by omega) (by omega)).mono ?_;rintro e w2 ⟨rfl,hq⟩;have HQ:=J (HK1.out _ _ hq);clear hq;go_wp2;go_end0;exact ⟨rfl,by rw [HK.out];exact HQ.out⟩
def kZ:Nat→Nat→List Nat→Bool→List (Nat × Nat)
 | 0,_,_,_=>[]
 | f+1,pos,b,last=>if b.length≤65535 then xe pos b last else xe pos (b.take 65535) false++kZ f (pos+wid (xe pos (b.take 65535) false)) (b.drop 65535) last
def xg (pos:Nat) (b:List Nat) (last:Bool):List (Nat × Nat):=kZ (b.length+1) pos b last
theorem x4 (pos:Nat){b:List Nat}(last:Bool) (h:b.length≤65535):xg pos b last=xe pos b last:=by
 unfold xg;rw [kZ,if_pos h]
def vm (P0:List (Nat × Nat)) (bs:List Nat) (last:Bool) (a:Nat) (P:List (Nat × Nat)):Prop:=
 ∃ f,bs.length-a<f∧P++kZ f (wid P) (bs.drop a) last=P0++xg (wid P0) bs last∧wid P≤wid P0+9*a
theorem vm.start (P0:List (Nat × Nat)) (bs:List Nat) (last:Bool):vm P0 bs last 0 P0:=⟨bs.length+1,by omega,rfl,by omega⟩
theorem vm.more {P0 P:List (Nat × Nat)}{bs:List Nat}{last:Bool}{a:Nat}(h:vm P0 bs last a P) (hl:65535<bs.length-a):vm P0 bs last (a+65535) (P++xe (wid P) ((bs.drop a).take 65535) false):=by
 obtain ⟨f,h1,h2,h3⟩:=h;obtain ⟨f,rfl⟩:∃ f',f=f'+1:=⟨f-1,by omega⟩;have hw:=xO (wid P) ((bs.drop a).take 65535) false;have hu:=yn (wid P+3);have hln:((bs.drop a).take 65535).length=65535:=by rw [List.length_take,List.length_drop];omega
 rw [hln] at hw;refine ⟨f,by omega,?_,by rw [zh];omega⟩;rw [←h2,kZ,if_neg (by rw [List.length_drop];omega),List.append_assoc,zh,List.drop_drop]
theorem vm.end_ {P0 P:List (Nat × Nat)}{bs:List Nat}{last:Bool}{a:Nat}(h:vm P0 bs last a P) (hl:bs.length-a≤65535):P++xe (wid P) (bs.drop a) last=P0++xg (wid P0) bs last:=by
 obtain ⟨f,h1,h2,h3⟩:=h;obtain ⟨f,rfl⟩:∃ f',f=f'+1:=⟨f-1,by omega⟩;rw [←h2,kZ,if_pos (by rw [List.length_drop];omega)]
section
variable {w:World}{base pw pk:Nat}{g:Option Nat}{P:List (Nat × Nat)}
theorem Wq.alignP (h:Wq w base pw g P) (hn:wid P≤6000000000) :
  Calls prog 69 #[.pointer (some ⟨pw,0,none⟩)] w fun e w'=>e=.returned (.tuple #[])∧Pq w base pw g (P++[(0,up8 (wid P)-wid P)]) w':=by
 refine (Wr.align h (by omega) _ rfl).mono ?_;rintro e w' ⟨rfl,hp⟩;refine ⟨rfl,?_⟩;unfold Pq;have hu:=yn (wid P);rw [yS,zh,(zR _ _).1,(zR _ _).2,Nat.mul_zero,Nat.add_zero,show wid P+(up8 (wid P)-wid P)=up8 (wid P) by omega];exact hp
theorem Wq.rawP (h:Wq w base pw g P) (hn:wid P≤6000000000) (h8:wid P%8=0){v:Value}{ys:List Nat}(hs:zi w v ys) (hy:Bs ys) (hl:ys.length≤1000000) :
  Calls prog 71 #[.pointer (some ⟨pw,0,none⟩),v] w fun e w'=>e=.returned (.tuple #[])∧Pq w base pw g (P++ys.map fun x=>(x,8)) w':=by
 have hu:up8 (wid P)=wid P:=by unfold up8;omega
 refine (Wr.raw h hs hy (by omega) hl _ _ rfl rfl).mono ?_;rintro e w' ⟨rfl,hp⟩;refine ⟨rfl,?_⟩;unfold Pq;rw [yS,zh,KK,uI];rw [hu,Nat.mul_comm (num ys)] at hp;exact hp
end
theorem zi.put {w w1:World}{base pw:Nat}{g:Option Nat}{P Q:List (Nat × Nat)}{v:Value}{xs:List Nat}(h:zi w v xs) (hw:Wq w base pw g P) (hq:Pq w base pw g Q w1) (hlo:∀ k,v.ownBlock=some k→k<base):zi w1 v xs:=by
 obtain ⟨_,_,ht,_⟩:=hq;exact h.touch ht fun k hk hf=>by have:=(Wr.foot hw hf).1;have:=hlo k hk;omega
end
section
open Go.RowKit
def Q2 (Tb:World→Prop):Prop:=∀ w,Tb w→Calls prog 9 #[] w fun e w'=>e=.returned (.bool true)∧Below w.heap.size w w'
end
section
open Go.Lib renaming hid → J
open Go.RowKit
theorem zf7 {W:World}{g n:Nat}(h:Blk W g 5 (va (n*1) (fun i=>(Value.int .u8 0).cells[i%(Value.int .u8 0).cells.size]!))):zi W (.slice (some ⟨g,0,none⟩) n n) (List.replicate n 0):=by
 refine .inr ⟨⟨g,0,none⟩,n,by rw [List.length_replicate],by rw [List.length_replicate];exact Nat.le_refl _,fun j u hu=>?_⟩
 have hj:j<n:=by
  have:=(List.getElem?_eq_some_iff.1 hu).1;simpa [u8s] using this
 rw [Addr.add_lit,Nat.zero_add,h.cell,zw _ _ j (by omega)];have hc:(Value.int .u8 0).cells = #[.int .u8 0]:=rfl;simp [u8s,hj] at hu;rw [hc,←hu];simp [Nat.mod_one]
theorem zkM (w:World) (z:Int):IS (w.alloc (.cells #[.int .i64 z] 3)) (some ⟨w.heap.size,0,none⟩) [z]:=by
 refine .inr ⟨_,0,rfl,fun j hj=>?_⟩;have:j=0:=by simp at hj;omega
 subst this;rw [Nat.zero_add,(Blk.made w 3 _).cell];rfl
set_option maxHeartbeats 3200000 in
theorem zbN {Tb:World→Prop}{D:List Nat→Nat→List Nat}{S:List Nat→List Nat}(P:zkb Tb D S) (hSa:S [97]=[1,1,0,254,255,97]):Q2 Tb:=by
 intro w hT;have HP:=J P;have HT:=J hT;obtain ⟨xs,hxs⟩:=exq (List.replicate 1000 0:List Nat);have hxl:xs.length=1000:=by rw [hxs,List.length_replicate]
 have HXL:=J hxl;have HXS:=J hxs;have hb:Bs xs:=fun x hx=>by rw [hxs] at hx;rw [List.eq_of_mem_replicate hx];decide
 have HB:=J hb;obtain ⟨p,hp⟩:=exq (D xs (lv 6));have HPE:=J hp;obtain ⟨⟨hpb,hpl,a1,s1,l1,hi1,hu1,hj1⟩,hj2⟩:=P.back hb (by omega) (zjV 6);rw [←hp] at hpb hpl hi1 hu1;have hp100:p.length≤100:=by
  have:=P.few (c:=0) (n:=1000) (k:=lv 6) (by omega) (by omega) (by omega) (by decide) (by decide);rw [←hxs,←hp] at this;omega
 have HPP:=J (show Bs p∧p.length≤100000 from ⟨hpb,by omega⟩);have HI1:=J (show infl p (1000:Int).toNat=.ok () ⟨a1,xs,s1,l1⟩ by rw [show (1000:Int).toNat=xs.length by rw [hxl];rfl];exact hi1);have HU1:=J hu1;have HSA:=J hSa;have hcv:=fun (w:World) (C:Array Value) (n c:Nat)=>Lib.run_convert_bytes_const (P:=prog) w 22 5 C n c underlying22 underlying5
 clear P hT hb hp hpb hpl hi1 hu1 hj1 hj2 hxs hxl hSa;go_enter func9,ntmps9;go_wp2_with (refine zy rfl 22 _ _ rfl 5 (.int .u8 0) 1 1 1000 underlying22 (by kernel_rfl) _ _ 1000 1000 rfl rfl rfl rfl (by omega) (by omega) ?_;intro W1 hb1 ht1 hs1;have Y1:=J (show zi W1 _ xs from by rw [HXS.out];exact zf7 hb1);have B1:=J ht1.none_below;clear hb1 ht1 hs1);refine (HP.out.defl 6 (HP.out.keep HT.out B1.out) Y1.out HB.out (by rw [HXL.out];omega)).mono ?_;rw [←HPE.out];intro e w2 hk;obtain ⟨ao2,c2,rfl,hy2,hb2⟩:=hk.by
 have B2:=J (B1.out.on hb2);have P2:=J hy2;have Y2:=J (Y1.out.grow hb2);clear hk hy2 hb2 Y1 B1;go_wp2_with fail
 refine (yz (limit:=1000) P2.out HPP.out.1 HPP.out.2 (by omega) (HP.out.tab (HP.out.keep HT.out B2.out)) HI1.out HU1.out.symm HXL.out.symm).mono ?_;rintro e w3 ⟨ao3,c3,rfl,bel3,an3⟩;have g3:=Below.more (Below.refl w3.heap.size w3) (Nat.le_refl _) (.cells #[.slice ao3 1000 c3,.int .i64 (p.length:Nat),.int .i64 (s1:Nat),.int .i64 (l1:Nat)] 27);have B3:=J ((B2.out.on bel3).on g3);have Y3:=J ((Y2.out.grow bel3).grow g3);have A3:=J an3;clear bel3 an3 Y2 B2 P2 g3;obtain ⟨q3,hq3⟩:=exq (w3.heap.size);obtain ⟨W3,hW3⟩:=exq (w3.alloc (.cells #[.slice ao3 1000 c3,.int .i64 (p.length:Nat),.int .i64 (s1:Nat),.int .i64 (l1:Nat)] 27));have A3':Hid (Ans W3 q3 w2.heap.size (.slice ao3 1000 c3) xs p.length s1 l1):=J (by rw [hW3,hq3];exact A3.out);rw [←hW3] at B3 Y3;clear A3;go_upto_region 4 with fail
 rw [←hW3,←hq3];clear hW3 hq3;have C3:=J (Below.more (Below.refl W3.heap.size W3) (Nat.le_refl _) (.cells #[.int .i64 500] 3));go_wp2_with fail
 refine (HP.out.blks 6 (ao:=some ⟨W3.heap.size,0,none⟩) (c:=1) (zs:=[500]) (HP.out.keep HT.out (B3.out.on C3.out)) (Y3.out.grow C3.out) HB.out (by rw [HXL.out];omega) (zkM W3 500) (by decide)).mono ?_;rintro e w4 ⟨out,hk,hob,hol,a2,s2,l2,hi2,hu2,hj⟩;obtain ⟨ao4,c4,rfl,hy4,hb4⟩:=hk.by
 have B4:=J ((B3.out.on C3.out).on hb4);have Y4:=J ((Y3.out.grow C3.out).grow hb4);have A4:=J ((A3'.out.below C3.out).below hb4);have P4:=J hy4;have HJ:Hid (2≤l2):=J (by
  have:fr xs.length [500]=1:=by rw [HXL.out];decide
  omega)
 have HO:=J (show Bs out∧out.length≤100000 from ⟨hob,by have:=HXL.out;omega⟩);have HI2:=J (show infl out (1000:Int).toNat=.ok () ⟨a2,xs,s2,l2⟩ by rw [show (1000:Int).toNat=xs.length by rw [HXL.out];rfl];exact hi2);have HU2:=J hu2;clear hk hob hol hi2 hu2 hj hy4 hb4 B3 Y3 A3' C3;go_wp2_with fail
 refine (yz (limit:=1000) P4.out HO.out.1 HO.out.2 (by omega) (HP.out.tab (HP.out.keep HT.out B4.out)) HI2.out HU2.out.symm HXL.out.symm).mono ?_;rintro e w5 ⟨ao5,c5,rfl,bel5,an5⟩;have g5:=Below.more (Below.refl w5.heap.size w5) (Nat.le_refl _) (.cells #[.slice ao5 1000 c5,.int .i64 (out.length:Nat),.int .i64 (s2:Nat),.int .i64 (l2:Nat)] 27);have B5:=J ((B4.out.on bel5).on g5);have Y5:=J ((Y4.out.grow bel5).grow g5);have A5:=J ((A4.out.below bel5).below g5);obtain ⟨q5,hq5⟩:=exq (w5.heap.size);obtain ⟨W5,hW5⟩:=exq (w5.alloc (.cells #[.slice ao5 1000 c5,.int .i64 (out.length:Nat),.int .i64 (s2:Nat),.int .i64 (l2:Nat)] 27));have E5:Hid (Ans W5 q5 w4.heap.size (.slice ao5 1000 c5) xs out.length s2 l2):=J (by rw [hW5,hq5];exact an5);rw [←hW5] at B5 Y5 A5;clear bel5 an5 g5 B4 Y4 A4 P4;go_upto_region 5 with fail
 rw [←hW5,←hq5];clear hW5 hq5;obtain ⟨k0,k1,k2,k3⟩:=A5.out.c;obtain ⟨m0,m1,m2,m3⟩:=E5.out.c;have hj2:(2:Int)≤l2:=by have:=HJ.out;omega
 have hp1:(p.length:Int)≤100:=by omega
 go_wp2_with fail
 refine (jh A5.out.by Y5.out (by rw [HXL.out];omega)).mono ?_;rintro e w6 ⟨he,nq,hw6⟩;rw [decide_eq_true rfl] at he;subst he;have hb6:=below_drewN (Below.refl W5.heap.size W5) nq;rw [←hw6] at hb6;have B6:=J (B5.out.on hb6);have n1:=(A5.out.below hb6).c.2.1;have n3:=(E5.out.below hb6).c.2.2.2;clear hw6 hb6 k0 k1 k2 k3 m0 m1 m2 m3 A5 E5 Y5 B5;go_wp2_with fail
 have g6:=Below.more (Below.refl w6.heap.size w6) (Nat.le_refl _) (.cells #[.int .u8 97] 5 (1,2));have G6:=J (B6.out.on g6);clear g6;refine (HP.out.sto (bs:=[97]) (HP.out.keep HT.out G6.out) (zjb w6 [97] _ 1 w6.heap.size (1,2) rfl rfl rfl) (fun x hx=>by rw [List.mem_singleton.1 hx];decide) (by decide)).mono ?_;rw [HSA.out];intro e w7 hk;obtain ⟨ao7,c7,rfl,hy7,hb7⟩:=hk.by
 have B7:=J (G6.out.on hb7);have Y7:=J hy7;clear hk hy7 hb7 G6 B6;go_wp2_with fail
 have g7:=Below.more (Below.refl w7.heap.size w7) (Nat.le_refl _) (.cells #[.int .u8 1,.int .u8 1,.int .u8 0,.int .u8 254,.int .u8 255,.int .u8 97] 5);have G7:=J (B7.out.on g7);have Z7:=J (Y7.out.grow g7);clear g7;refine (jh Z7.out (zaZ w7 [1,1,0,254,255,97] #[.int .u8 1,.int .u8 1,.int .u8 0,.int .u8 254,.int .u8 255,.int .u8 97] 6 w7.heap.size rfl rfl rfl) (by decide)).mono ?_;rintro e w8 ⟨he,nq,rfl⟩;rw [decide_eq_true rfl] at he;subst he;have B8:=J (below_drewN G7.out nq);generalize (w7.alloc (.cells #[.int .u8 1,.int .u8 1,.int .u8 0,.int .u8 254,.int .u8 255,.int .u8 97] 5)).drewN nq=w8 at B8 ⊢;clear Y7 Z7 B7;go_wp2_with fail
 refine (HP.out.bound w8 65536 (by omega)).mono ?_;rintro e w9 ⟨rfl,hb9⟩;have B9:=J (B8.out.on hb9);rw [show bnd 65536=65546 by decide];clear hb9;go_wp2;go_ret;exact ⟨rfl,B9.out⟩
structure Tw (B:Nat) (w wr:World) (v1:Value) (n1:Nat) (xs1:List Int) (v2:Value) (n2:Nat) (xs2:List Int):Prop where
 own1:wr.ownsRow B 3 1 v1 n1 (iv xs1)
 own2:wr.ownsRow B 3 1 v2 n2 (iv xs2)
 ne:∀ k,v1.ownBlock=some k→v2.ownBlock≠some k
 below:Below B w wr
 size:B≤wr.heap.size
theorem Tw.app1 {B n1 n2 m:Nat}{w wr w':World}{v1 v2 v':Value}{xs1 xs2 ys:List Int}(h:Tw B w wr v1 n1 xs1 v2 n2 xs2) (k:Apg wr B 3 1 v1 m (iv ys) v' w'):Tw B w w' v' m ys v2 n2 xs2:=by
 refine ⟨k.own,zd h.own2 k.touch fun i hi hs=>h.ne i hs hi,fun i hi h2=>?_,h.below.trans (k.below h.own1 h.size),Nat.le_trans h.size k.touch.size⟩;rcases k.row i hi with h1 | h1
 ·exact h.ne i h1 h2
 ·have:=(h.own2.lt i h2).2
  omega
theorem Tw.app2 {B n1 n2 m:Nat}{w wr w':World}{v1 v2 v':Value}{xs1 xs2 ys:List Int}(h:Tw B w wr v1 n1 xs1 v2 n2 xs2) (k:Apg wr B 3 1 v2 m (iv ys) v' w'):Tw B w w' v1 n1 xs1 v' m ys:=by
 refine ⟨zd h.own1 k.touch fun i hi hs=>h.ne i hi hs,k.own,fun i hi h2=>?_,h.below.trans (k.below h.own2 h.size),Nat.le_trans h.size k.touch.size⟩;rcases k.row i h2 with h1 | h1
 ·exact h.ne i hi h1
 ·have:=(h.own1.lt i hi).2
  omega
theorem Tw.start (w:World):Tw w.heap.size w ((w.alloc (.cells #[] 3)).alloc (.cells #[] 3)) (.slice (some ⟨w.heap.size,0,none⟩) 0 0) 0 [] (.slice (some ⟨w.heap.size+1,0,none⟩) 0 0) 0 []:=by
 have hs:(w.alloc (.cells #[] 3)).heap.size=w.heap.size+1:=Array.size_push _;have h1:=yP w 3 1;have h2:=yP (w.alloc (.cells #[] 3)) 3 1;rw [hs] at h2;refine ⟨h1.alloc _,zz h2 (Nat.le_succ _),fun k hk e=>?_,((Below.refl _ w).alloc (Nat.le_refl _) _).alloc (by rw [hs];omega) _,?_⟩
 ·simp only [Value.ownBlock,Option.some.injEq] at hk e
  omega
 ·have:=Array.size_push (xs:=(w.alloc (.cells #[] 3)).heap) (Obj.cells #[] 3)
  show w.heap.size≤((w.alloc (.cells #[] 3)).heap.push (Obj.cells #[] 3)).size;rw [this,hs];omega
theorem xY (w:World) (e:TypeId) (u:Value):zI (w.alloc (.cells #[u] e)) (.slice (some ⟨w.heap.size,0,none⟩) 1 1) 1 [u]:=by
 refine .inr ⟨_,1,rfl,fun j x hx=>?_⟩;rw [Addr.add_lit,Nat.zero_add,(Blk.made w e _).cell];have:j<1:=(List.getElem?_eq_some_iff.1 hx).1;obtain rfl:j=0:=by omega
 simpa using hx
theorem zcR:∀ i,i<288→qo.take (i+1)=qo.take i++[if i<144 then 8 else if i<256 then 9 else if i<280 then 7 else 8]:=by decide +kernel
theorem zlA:∀ i,i<32→xT.take (i+1)=xT.take i++[5]:=by decide +kernel
set_option maxHeartbeats 3200000 in
theorem zbC (w:World):Calls prog 27 #[] w (zjP w):=by
 have HS:=J (Tw.start w);obtain ⟨B,hB⟩:=exq (w.heap.size);rw [←hB] at HS;have HB:=J hB;go_enter func27,ntmps27;go_wp2;rw [←hB] at ⊢;clear hB;go_loopg [2,4] 289 (fun gm v vi wr=>∃ (i:Nat) (ao:Option Addr) (c:Nat),i≤288∧289-i≤gm∧v=.slice ao i c∧vi=.int .i64 (i:Nat)∧Hid (Tw B w wr (.slice ao i c) i (qo.take i) (.slice (some ⟨B+1,0,none⟩) 0 0) 0 []))
 case atStart=>exact ⟨0,_,_,by omega,by omega,rfl,rfl,HS⟩
 case round=>
  clear HS;obtain ⟨i,ao,c,hi,hgm,rfl,rfl,HX⟩:=hrel;by_cases hlt:i<288
  ·have h0:(i:Int)<288:=by omega
   rcases (by omega:i<144∨(144≤i∧i<256)∨(256≤i∧i<280)∨(280≤i∧i<288)) with h1 | ⟨h1,h2⟩ | ⟨h1,h2⟩ | ⟨h1,h2⟩
   ·have k1:¬(144:Int)≤i:=by omega
    have k2:¬(256:Int)≤i:=by omega
    go_wp2_with (refine ze kg rfl (.tmp 25) (.tmp 27) rfl B (.slice ao i c) (.slice (some ⟨wr.heap.size,0,none⟩) 1 1) i 1 (iv (qo.take i)) [.int .i64 8] rfl rfl (World.ownsRow.alloc (w:=wr) HX.out.own1 _) (xY wr 3 _) rfl (by simp [Value.oneCell']) (by have:=HX.out.size;simp;omega) (by omega) (by omega) ?_;intro ao2 c2 w3 hA;have HA:=J hA;clear hA);go_roundg (289-(i+1))
    case measure=>omega
    case rel=>
     refine ⟨i+1,ao2,c2,by omega,Nat.le_refl _,rfl,rfl,J (HX.out.app1 (ys:=qo.take (i+1)) ?_)⟩;rw [zcR i hlt,←jM,if_pos h1];exact HA.out.alloc
   ·have k1:(144:Int)≤i:=by omega
    have k2:¬(256:Int)≤i:=by omega
    have k3:(i:Int)<256:=by omega
    go_wp2_with (refine ze kg rfl (.tmp 25) (.tmp 27) rfl B (.slice ao i c) (.slice (some ⟨wr.heap.size,0,none⟩) 1 1) i 1 (iv (qo.take i)) [.int .i64 9] rfl rfl (World.ownsRow.alloc (w:=wr) HX.out.own1 _) (xY wr 3 _) rfl (by simp [Value.oneCell']) (by have:=HX.out.size;simp;omega) (by omega) (by omega) ?_;intro ao2 c2 w3 hA;have HA:=J hA;clear hA);go_roundg (289-(i+1))
    case measure=>omega
    case rel=>
     refine ⟨i+1,ao2,c2,by omega,Nat.le_refl _,rfl,rfl,J (HX.out.app1 (ys:=qo.take (i+1)) ?_)⟩;rw [zcR i hlt,←jM,if_neg (by omega),if_pos h2];exact HA.out.alloc
   ·have k1:(144:Int)≤i:=by omega
    have k2:(256:Int)≤i:=by omega
    have k3:¬(i:Int)<256:=by omega
    have k4:(i:Int)<280:=by omega
    go_wp2_with (refine ze kg rfl (.tmp 25) (.tmp 27) rfl B (.slice ao i c) (.slice (some ⟨wr.heap.size,0,none⟩) 1 1) i 1 (iv (qo.take i)) [.int .i64 7] rfl rfl (World.ownsRow.alloc (w:=wr) HX.out.own1 _) (xY wr 3 _) rfl (by simp [Value.oneCell']) (by have:=HX.out.size;simp;omega) (by omega) (by omega) ?_;intro ao2 c2 w3 hA;have HA:=J hA;clear hA);go_roundg (289-(i+1))
    case measure=>omega
    case rel=>
     refine ⟨i+1,ao2,c2,by omega,Nat.le_refl _,rfl,rfl,J (HX.out.app1 (ys:=qo.take (i+1)) ?_)⟩;rw [zcR i hlt,←jM,if_neg (by omega),if_neg (by omega),if_pos h2];exact HA.out.alloc
   ·have k1:(144:Int)≤i:=by omega
    have k2:(256:Int)≤i:=by omega
    have k3:¬(i:Int)<256:=by omega
    have k4:¬(i:Int)<280:=by omega
    go_wp2_with (refine ze kg rfl (.tmp 25) (.tmp 27) rfl B (.slice ao i c) (.slice (some ⟨wr.heap.size,0,none⟩) 1 1) i 1 (iv (qo.take i)) [.int .i64 8] rfl rfl (World.ownsRow.alloc (w:=wr) HX.out.own1 _) (xY wr 3 _) rfl (by simp [Value.oneCell']) (by have:=HX.out.size;simp;omega) (by omega) (by omega) ?_;intro ao2 c2 w3 hA;have HA:=J hA;clear hA);go_roundg (289-(i+1))
    case measure=>omega
    case rel=>
     refine ⟨i+1,ao2,c2,by omega,Nat.le_refl _,rfl,rfl,J (HX.out.app1 (ys:=qo.take (i+1)) ?_)⟩;rw [zcR i hlt,←jM,if_neg (by omega),if_neg (by omega),if_neg (by omega)];exact HA.out.alloc
  ·obtain rfl:i=288:=by omega
   rw [show qo.take 288=qo by decide +kernel] at HX;clear hi hgm hlt;go_wp2;go_loopg [3,6] 33 (fun gm v vi wr2=>∃ (i:Nat) (ao2:Option Addr) (c2:Nat),i≤32∧33-i≤gm∧v=.slice ao2 i c2∧vi=.int .i64 (i:Nat)∧Hid (Tw B w wr2 (.slice ao 288 c) 288 qo (.slice ao2 i c2) i (xT.take i)))
   case atStart=>exact ⟨0,_,_,by omega,by omega,rfl,rfl,HX⟩
   case round=>
    clear HX;obtain ⟨i,ao3,c3,hi,hgm,rfl,rfl,HX⟩:=hrel;by_cases hlt:i<32
    ·have h0:(i:Int)<32:=by omega
     go_wp2_with (refine ze kg rfl (.tmp 33) (.tmp 34) rfl B (.slice ao3 i c3) (.slice (some ⟨wr.heap.size,0,none⟩) 1 1) i 1 (iv (xT.take i)) [.int .i64 5] rfl rfl (World.ownsRow.alloc (w:=wr) HX.out.own2 _) (xY wr 3 _) rfl (by simp [Value.oneCell']) (by have:=HX.out.size;simp;omega) (by omega) (by omega) ?_;intro ao4 c4 w3 hA;have HA:=J hA;clear hA);go_roundg (33-(i+1))
     case measure=>omega
     case rel=>
      refine ⟨i+1,ao4,c4,by omega,Nat.le_refl _,rfl,rfl,J (HX.out.app2 (ys:=xT.take (i+1)) ?_)⟩;rw [zlA i hlt,←jM];exact HA.out.alloc
    ·obtain rfl:i=32:=by omega
     rw [show xT.take 32=xT by decide +kernel] at HX;clear hi hgm hlt;go_wp2;go_ret2
     exact ⟨ao,c,ao3,c3,rfl,j9 HX.out.own1 jz,j9 HX.out.own2 uz,by rw [←HB.out];exact HX.out.below⟩
end
section
open Go.RowKit
theorem zkK:∀ y,y<265→257≤y→lenOf y=some (y-254,0):=by decide +kernel
theorem zkm:∀ y,y<285→265≤y→lenOf y=some (3+(4+(y-261)%4)*2^((y-261)/4),(y-261)/4):=by decide +kernel
theorem zkv:∀ y,y<4→xu y=some (y+1,0):=by decide +kernel
theorem zkP:∀ y,y<30→4≤y→xu y=some (1+(2+y%2)*2^(y/2-1),y/2-1):=by decide +kernel
theorem zbl (y:Int) (w:World) (h:y<257∨285<y):Calls prog 66 #[.int .i64 y] w fun e w'=>e=.returned (tells none)∧w=w':=by
 by_cases h1:y<257
 ·clear h
  go_enter func66,ntmps66;go_wp2;go_ret3
  exact ⟨rfl,rfl⟩
 ·have h2:285<y:=by omega
  clear h;go_enter func66,ntmps66;go_wp2;go_ret3
  exact ⟨rfl,rfl⟩
theorem Ur (y:Nat) (w:World):Calls prog 66 #[.int .i64 y] w fun e w'=>e=.returned (tells (lenOf y))∧w=w':=by
 by_cases h:y<257∨285<y
 ·unfold lenOf
  rw [if_pos h];exact zbl y w (by omega)
 ·have ha:¬(y:Int)<257:=by omega
  have hb:¬(285:Int)<y:=by omega
  have hc:(257:Int)≤y:=by omega
  have hd:(y:Int)≤285:=by omega
  by_cases h1:y=285
  ·subst h1
   go_enter func66,ntmps66;go_wp2;go_ret3
   exact ⟨rfl,rfl⟩
  ·have e1:((y:Int) == 285)=false:=by simp;omega
   by_cases h2:y<265
   ·obtain ⟨k,hk⟩:=exq (y-254)
    rw [zkK y h2 (by omega),←hk];have e2:(y:Int)-254=(k:Nat):=by omega
    have e3:(y:Int)<265:=by omega
    clear h hk;go_enter func66,ntmps66;go_wp2;go_ret3
    exact ⟨rfl,rfl⟩
   ·obtain ⟨k,hk⟩:=exq (y-261)
    obtain ⟨e,he⟩:=exq (k/4);obtain ⟨m,hm⟩:=exq (k%4);obtain ⟨v,hv⟩:∃ v,(4+m)*2^e=v:=⟨_,rfl⟩;rw [zkm y (by omega) (by omega),←hk,←he,←hm,hv];have hm4:m<4:=by omega
    have he5:e≤5:=by omega
    have hvb:v≤1000:=by
     rw [←hv];exact Nat.le_trans (Nat.mul_le_mul (show 4+m≤7 by omega) (Nat.pow_le_pow_right (by omega) he5)) (by decide)
    have e2:(y:Int)-261=(k:Nat):=by omega
    have e3:¬(y:Int)<265:=by omega
    have q1:(k:Int)/4=(e:Int):=by omega
    have q2:(k:Int)%4=(m:Int):=by omega
    have q3:(4+(m:Int))*2^e=v:=by rw [←hv];simp
    have hk9:k≤30:=by omega
    clear h hk he hm hv;go_enter func66,ntmps66;go_wp2;go_ret3
    exact ⟨rfl,rfl⟩
theorem Xi (y:Int) (w:World) (h:y<0∨29<y):Calls prog 67 #[.int .i64 y] w fun e w'=>e=.returned (tells none)∧w=w':=by
 by_cases h1:y<0
 ·clear h
  go_enter func67,ntmps67;go_wp2;go_ret3
  exact ⟨rfl,rfl⟩
 ·have h2:29<y:=by omega
  clear h;go_enter func67,ntmps67;go_wp2;go_ret3
  exact ⟨rfl,rfl⟩
theorem yf (y:Nat) (w:World):Calls prog 67 #[.int .i64 y] w fun e w'=>e=.returned (tells (xu y))∧w=w':=by
 by_cases h:29<y
 ·unfold xu
  rw [if_pos h];exact Xi y w (by omega)
 ·have ha:¬(y:Int)<0:=by omega
  have hb:¬(29:Int)<y:=by omega
  have hc:(0:Int)≤y:=by omega
  have hd:(y:Int)≤29:=by omega
  by_cases h2:y<4
  ·rw [zkv y h2]
   have e3:(y:Int)<4:=by omega
   clear h;go_enter func67,ntmps67;go_wp2;go_ret3
   exact ⟨by simp [tells],rfl⟩
  ·obtain ⟨q,hq⟩:=exq (y/2)
   obtain ⟨e,he⟩:=exq (q-1);obtain ⟨m,hm⟩:=exq (y%2);obtain ⟨v,hv⟩:∃ v,(2+m)*2^e=v:=⟨_,rfl⟩;rw [zkP y (by omega) (by omega),←hq,←he,←hm,hv];have he5:e≤13:=by omega
   have hm4:m<2:=by omega
   have hvb:v≤100000:=by
    rw [←hv];exact Nat.le_trans (Nat.mul_le_mul (show 2+m≤3 by omega) (Nat.pow_le_pow_right (by omega) he5)) (by decide)
   have e3:¬(y:Int)<4:=by omega
   have q0:(y:Int)/2=(q:Int):=by omega
   have q1:(q:Int)-1=(e:Int):=by omega
   have q2:(y:Int)%2=(m:Int):=by omega
   have q3:(2+(m:Int))*2^e=v:=by rw [←hv];simp
   have hq9:q≤15:=by omega
   clear h hq he hm hv;go_enter func67,ntmps67;go_wp2;go_ret3
   exact ⟨rfl,rfl⟩
def qc (rv ov:Value) (lim er nb:Nat) (s:Sta):Array Value:=
 #[rv,.int .i64 (s.at_:Nat),ov,.int .i64 (lim:Nat),.int .i64 (er:Nat),.int .i64 (s.steps:Nat),.int .i64 (nb:Nat)]
structure QS (B p:Nat) (rv:Value) (bs:List Nat) (lim nb er:Nat) (w:World) (ov:Value) (s:Sta):Prop where
 blk:Blk w p 37 (qc rv ov lim er nb s)
 row:w.ownsRow B 5 1 rv (8*bs.length) (u8s (qj bs (8*bs.length)))
 own:w.ownsRow B 5 1 ov s.out.length (u8s s.out)
 ne:∀ k,ov.ownBlock=some k→rv.ownBlock≠some k
 hp:B≤p
 len:bs.length≤2000
 lim_:lim≤2000000
 in_:s.at_≤8*bs.length
 out:s.out.length≤lim
 steps:s.steps≤s.at_
 nb_:nb≤100000
 er_:er≤15
 bytes:Bs s.out
 bsb:Bs bs
def QT (p:Nat) (ov:Value) (k:Nat):Prop:=k=p∨ov.ownBlock=some k
structure Qv (p:Nat) (w:World) (ov:Value) (w':World) (ov':Value):Prop where
 touch:Touch (QT p ov) w w'
 row:∀ k,ov'.ownBlock=some k→ov.ownBlock=some k∨w.heap.size≤k
theorem Qv.refl (p:Nat) (w:World) (ov:Value):Qv p w ov w ov:=⟨Touch.refl _ _,fun _ h => .inl h⟩
theorem Qv.trans {p:Nat}{a b c:World}{o1 o2 o3:Value}(h:Qv p a o1 b o2) (k:Qv p b o2 c o3):Qv p a o1 c o3:=by
 refine ⟨h.touch.trans' k.touch ?_,fun i hi=>?_⟩
 ·rintro i (hi | hi) hlt
  ·exact .inl hi
  ·rcases h.row i hi with hi | hi
   ·exact .inr hi
   ·omega
 ·rcases k.row i hi with hi | hi
  ·exact h.row i hi
  ·exact .inr (Nat.le_trans h.touch.size hi)
section
variable {B p:Nat}{rv:Value}{bs:List Nat}{lim nb er:Nat}{w:World}{ov:Value}{s:Sta}
theorem QS.neP (h:QS B p rv bs lim nb er w ov s):(∀ k,ov.ownBlock=some k→k≠p)∧(∀ k,rv.ownBlock=some k→k≠p):=by
 have hb:=h.blk;constructor
 ·intro k hk
  obtain ⟨cs',hc⟩:=zZ h.own hk;rintro rfl;rw [Blk,hc] at hb;simp at hb
 ·intro k hk
  obtain ⟨cs',hc⟩:=zZ h.row hk;rintro rfl;rw [Blk,hc] at hb;simp at hb
theorem QS.base (h:QS B p rv bs lim nb er w ov s):∀ k,QT p ov k→B≤k:=by
 rintro k (rfl | hk)
 ·exact h.hp
 ·exact (h.own.lt k hk).1
theorem QS.top (h:QS B p rv bs lim nb er w ov s):∀ k,QT p ov k→k<w.heap.size:=by
 rintro k (rfl | hk)
 ·exact h.blk.lt
 ·exact (h.own.lt k hk).2
theorem QS.size (h:QS B p rv bs lim nb er w ov s):B≤w.heap.size:=Nat.le_trans h.hp (Nat.le_of_lt h.blk.lt)
theorem QS.below {w':World}(h:QS B p rv bs lim nb er w ov s) (k:Touch (QT p ov) w w'):Below B w w':=k.below h.size h.base
theorem QS.shape (h:QS B p rv bs lim nb er w ov s):∃ ao c,ov=.slice ao s.out.length c:=zr h.own
theorem QS.rshape (h:QS B p rv bs lim nb er w ov s):∃ ao c,rv=.slice ao (8*bs.length) c:=zr h.row
structure Qcs (w:World) (p:Nat) (rv ov:Value) (lim nb er:Nat) (s:Sta):Prop where
 c0:w.cell? ⟨p,0,none⟩=some rv
 c1:w.cell? ⟨p,1,none⟩=some (.int .i64 (s.at_:Nat))
 c2:w.cell? ⟨p,2,none⟩=some ov
 c3:w.cell? ⟨p,3,none⟩=some (.int .i64 (lim:Nat))
 c4:w.cell? ⟨p,4,none⟩=some (.int .i64 (er:Nat))
 c5:w.cell? ⟨p,5,none⟩=some (.int .i64 (s.steps:Nat))
 c6:w.cell? ⟨p,6,none⟩=some (.int .i64 (nb:Nat))
 f1:w.frozen? ⟨p,1,none⟩=false
 f2:w.frozen? ⟨p,2,none⟩=false
 f4:w.frozen? ⟨p,4,none⟩=false
 f5:w.frozen? ⟨p,5,none⟩=false
 f6:w.frozen? ⟨p,6,none⟩=false
theorem QS.cells (h:QS B p rv bs lim nb er w ov s):Qcs w p rv ov lim nb er s:=
 ⟨(h.blk.cell 0).trans rfl,(h.blk.cell 1).trans rfl,(h.blk.cell 2).trans rfl,(h.blk.cell 3).trans rfl,(h.blk.cell 4).trans rfl,(h.blk.cell 5).trans rfl,(h.blk.cell 6).trans rfl,h.blk.free 1,h.blk.free 2,h.blk.free 4,h.blk.free 5,h.blk.free 6⟩
theorem QS.set1 (h:QS B p rv bs lim nb er w ov s) (i:Nat) (u:Value) :
  (w.setCell ⟨p,i,none⟩ u).ownsRow B 5 1 rv (8*bs.length) (u8s (qj bs (8*bs.length)))∧(w.setCell ⟨p,i,none⟩ u).ownsRow B 5 1 ov s.out.length (u8s s.out)∧Qv p w ov (w.setCell ⟨p,i,none⟩ u) ov:=by
 have ht:Touch (fun k=>k=p) w (w.setCell ⟨p,i,none⟩ u):=(Touch.refl _ w).setCell _ _ (.inl rfl);exact ⟨zd h.row ht fun k hk e=>h.neP.2 k hk e,zd h.own ht fun k hk e=>h.neP.1 k hk e,ht.mono fun k hk => .inl hk,fun _ x => .inl x⟩
theorem QS.setAt (h:QS B p rv bs lim nb er w ov s) (m:Nat) (h1:s.at_≤m) (h2:m≤8*bs.length){x:Int}(hx:x=(m:Int)) :
  QS B p rv bs lim nb er (w.setCell ⟨p,1,none⟩ (.int .i64 x)) ov { s with at_:=m }∧Qv p w ov (w.setCell ⟨p,1,none⟩ (.int .i64 x)) ov:=by
 subst hx;obtain ⟨k1,k2,k3⟩:=h.set1 1 (.int .i64 (m:Nat));exact ⟨⟨h.blk.setCell 1 _,k1,k2,h.ne,h.hp,h.len,h.lim_,h2,h.out,Nat.le_trans h.steps h1,h.nb_,h.er_,h.bytes,h.bsb⟩,k3⟩
theorem QS.setErr (h:QS B p rv bs lim nb er w ov s) (e:Nat) (he:e≤15) :
  QS B p rv bs lim nb e (w.setCell ⟨p,4,none⟩ (.int .i64 (e:Nat))) ov s∧Qv p w ov (w.setCell ⟨p,4,none⟩ (.int .i64 (e:Nat))) ov:=by
 obtain ⟨k1,k2,k3⟩:=h.set1 4 (.int .i64 (e:Nat));exact ⟨⟨h.blk.setCell 4 _,k1,k2,h.ne,h.hp,h.len,h.lim_,h.in_,h.out,h.steps,h.nb_,he,h.bytes,h.bsb⟩,k3⟩
theorem QS.setSteps (h:QS B p rv bs lim nb er w ov s) (m:Nat) (hm:m≤s.at_){x:Int}(hx:x=(m:Int)) :
  QS B p rv bs lim nb er (w.setCell ⟨p,5,none⟩ (.int .i64 x)) ov { s with steps:=m }∧Qv p w ov (w.setCell ⟨p,5,none⟩ (.int .i64 x)) ov:=by
 subst hx;obtain ⟨k1,k2,k3⟩:=h.set1 5 (.int .i64 (m:Nat));exact ⟨⟨h.blk.setCell 5 _,k1,k2,h.ne,h.hp,h.len,h.lim_,h.in_,h.out,hm,h.nb_,h.er_,h.bytes,h.bsb⟩,k3⟩
theorem QS.setBlocks (h:QS B p rv bs lim nb er w ov s) (m:Nat) (hm:m≤100000){x:Int}(hx:x=(m:Int)) :
  QS B p rv bs lim m er (w.setCell ⟨p,6,none⟩ (.int .i64 x)) ov s∧Qv p w ov (w.setCell ⟨p,6,none⟩ (.int .i64 x)) ov:=by
 subst hx;obtain ⟨k1,k2,k3⟩:=h.set1 6 (.int .i64 (m:Nat));exact ⟨⟨h.blk.setCell 6 _,k1,k2,h.ne,h.hp,h.len,h.lim_,h.in_,h.out,h.steps,hm,h.er_,h.bytes,h.bsb⟩,k3⟩
theorem QS.grow {w':World}(h:QS B p rv bs lim nb er w ov s) (k:Below w.heap.size w w'):QS B p rv bs lim nb er w' ov s∧Qv p w ov w' ov:=by
 have ht:Touch (fun _=>False) w w':=Touch.of_below k;exact ⟨⟨h.blk.below k,zd h.row ht fun _ _ e=>e,zd h.own ht fun _ _ e=>e,h.ne,h.hp,h.len,h.lim_,h.in_,h.out,h.steps,h.nb_,h.er_,h.bytes,h.bsb⟩,ht.mono fun _ e=>e.elim,fun _ x => .inl x⟩
theorem QS.drewN (h:QS B p rv bs lim nb er w ov s) (q:Nat):QS B p rv bs lim nb er (w.drewN q) ov s∧Qv p w ov (w.drewN q) ov:=h.grow (below_drewN (Below.refl _ _) q)
theorem QS.drew (h:QS B p rv bs lim nb er w ov s):QS B p rv bs lim nb er w.drew ov s∧Qv p w ov w.drew ov:=h.grow (zQ (Below.refl _ _))
theorem QS.setOut {w1:World}{ov':Value}{xs:List Nat}(h:QS B p rv bs lim nb er w ov s) (hA:Apd w B ov xs ov' w1) (hx:xs.length≤lim) (hb':Bs xs) :
  QS B p rv bs lim nb er (w1.setCell ⟨p,2,none⟩ ov') ov' { s with out:=xs }∧Qv p w ov (w1.setCell ⟨p,2,none⟩ ov') ov':=by
 obtain ⟨n1,n2⟩:=h.neP;have hp:=h.blk.lt;have hT1:Touch (QT p ov) w w1:=hA.touch.mono fun i hi => .inr hi
 have hT:Touch (QT p ov) w (w1.setCell ⟨p,2,none⟩ ov'):=hT1.setCell _ _ (.inl (.inl rfl));have ht2:Touch (fun k=>k=p) w1 (w1.setCell ⟨p,2,none⟩ ov'):=(Touch.refl _ w1).setCell _ _ (.inl rfl);have hb1:Blk w1 p 37 (qc rv ov lim er nb s):=h.blk.touch hA.touch fun e=>n1 _ e rfl
 have hr1:=zd h.row hA.touch fun k hk e=>h.ne k e hk
 refine ⟨⟨hb1.setCell 2 _,zd hr1 ht2 fun k hk e=>n2 k hk e,zd hA.own ht2 fun i hi e=>?_,fun k hk hgk=>?_,h.hp,h.len,h.lim_,h.in_,hx,h.steps,h.nb_,h.er_,hb',h.bsb⟩,hT,hA.row⟩
 ·rcases hA.row i hi with h1 | h1
  ·exact n1 i h1 e
  ·omega
 ·rcases hA.row k hk with h1 | h1
  ·exact h.ne k h1 hgk
  ·have:=(h.row.lt k hgk).2
   omega
theorem QS.mid {w1:World}{ov':Value}{xs:List Nat}{o:Obj}(h:QS B p rv bs lim nb er w ov s) (hA:Apd (w.alloc o) B ov xs ov' w1) (hx:xs.length≤lim) (hb':Bs xs) :
  w1.cell? ⟨p,2,none⟩=some ov∧w1.frozen? ⟨p,2,none⟩=false∧QS B p rv bs lim nb er (w1.setCell ⟨p,2,none⟩ ov') ov' { s with out:=xs }∧Qv p w ov (w1.setCell ⟨p,2,none⟩ ov') ov':=by
 obtain ⟨h1,k1⟩:=h.grow ((Below.refl _ w).alloc (Nat.le_refl _) o);have hb1:Blk w1 p 37 (qc rv ov lim er nb s):=h1.blk.touch hA.touch fun e=>h1.neP.1 _ e rfl
 obtain ⟨h2,k2⟩:=h1.setOut hA hx hb';exact ⟨(hb1.cell 2).trans rfl,hb1.free 2,h2,k1.trans k2⟩
theorem QS.byte (h:QS B p rv bs lim nb er w ov s) (k:Nat) (hk:k<s.out.length):∃ b c,ov=.slice (some ⟨b,0,none⟩) s.out.length c∧s.out.length≤c∧w.cell? ⟨b,k,none⟩=some (.int .u8 (s.out.getD k 0:Nat)):=by
 rcases h.own.2 with ⟨_,hl⟩ | ⟨g',cap,cur,rfl,_,hh,hc,_⟩
 ·omega
 ·exact ⟨g',cap,rfl,hc,jn h.own k hk⟩
theorem QS.bit (h:QS B p rv bs lim nb er w ov s) (k:Nat) (hk:k<8*bs.length):∃ b c,rv=.slice (some ⟨b,0,none⟩) (8*bs.length) c∧8*bs.length≤c∧w.cell? ⟨b,k,none⟩=some (.int .u8 (num bs/2^k%2:Nat)):=by
 have hr:=h.row;have hl:(qj bs (8*bs.length)).length=8*bs.length:=qQ _ _;rcases hr.2 with ⟨_,hl0⟩ | ⟨g',cap,cur,rfl,_,hh,hc,_⟩
 ·omega
 ·refine ⟨g',cap,rfl,hc,?_⟩
  have:=jn (bs:=qj bs (8*bs.length)) (w:=w) (base:=B) (g:=g') (cap:=cap) (by rw [hl];exact hr) k (by rw [hl];exact hk);unfold byt at this;rw [Js _ _ _ hk] at this;exact this
def QTo {α : Type}(B p:Nat) (rv:Value) (bs:List Nat) (lim nb:Nat) (w:World) (ov:Value) (enc : α → Value) (bad:Value) (r:Res α) (e:Ending) (w':World):Prop:=
 match r with
 | .bad er=>e=.returned bad∧∃ ov' s',QS B p rv bs lim nb er w' ov' s'∧Qv p w ov w' ov'
 | .ok a t=>e=.returned (enc a)∧∃ ov',QS B p rv bs lim nb 0 w' ov' t∧Qv p w ov w' ov'
theorem QTo.bad {α : Type}{enc : α → Value}{bad:Value}{R:Res α}{er:Nat}{w':World}{ov':Value}{s':Sta}(e:R=.bad er) (h:QS B p rv bs lim nb er w' ov' s') (m:Qv p w ov w' ov'):QTo B p rv bs lim nb w ov enc bad R (.returned bad) w':=by
 subst e;exact ⟨rfl,ov',s',h,m⟩
theorem QTo.ok {α : Type}{enc : α → Value}{bad:Value}{R:Res α}{a : α}{t:Sta}{w':World}{ov':Value}(e:R=.ok a t) (h:QS B p rv bs lim nb 0 w' ov' t) (m:Qv p w ov w' ov'):QTo B p rv bs lim nb w ov enc bad R (.returned (enc a)) w':=by
 subst e;exact ⟨rfl,ov',h,m⟩
def Cod (w:World) (p:Nat) (ov:Value) (pc:Nat) (ls:List Nat):Prop:=∀ w',Touch (QT p ov) w w'→RAt w' pc ls
theorem Cod.on {w':World}{ov':Value}{pc:Nat}{ls:List Nat}(h:Cod w p ov pc ls) (m:Qv p w ov w' ov'):Cod w' p ov' pc ls:=
 fun w2 k=>h w2 (m.trans ⟨k,fun _ x => .inl x⟩:Qv p w ov w2 ov').touch
end
end
end Go.Proofs.YtacpfpghokcdlaaGreatDoor
