/- Part 25. -/
import Derived.Test.YtacpfpghokcdlaaGreatDoorXB24
open Go.Proofs.Tryz
namespace Go.Proofs.YtacpfpghokcdlaaGreatDoor.V
set_option maxRecDepth 100000
section
open Go.Lib renaming hid → J
open Go.RowKit Go.Maps
def eff:List Nat:=[0,0,8,0,16,0,32,0,32,8,48,16,64,32,96,64,128,128,256,258]
def yc (w:World):Prop:=∀ j,j<20→w.cell? ⟨0,j,none⟩=some (.int .i64 (eff.getD j 0:Nat))
theorem yc.keep {W W':World}(h:yc W) (hb:Below W.heap.size W W'):yc W':=fun j hj=>by
 have:=h j hj;exact (hb.cell (World.block_lt_of_cell? W _ this)).trans this
theorem ze1:∀ j,j<20→eff.getD j 0≤1000:=by decide
theorem zcE:∀ i,i<10→(eff.getD (i*2) 0=0↔i=0):=by decide
def qb (bs:List Nat) (level:Int):List M.Tok:=
 if eff.getD ((min (max level 0) 9).toNat*2) 0=0 then lits bs else jt bs (eff.getD ((min (max level 0) 9).toNat*2) 0) (eff.getD ((min (max level 0) 9).toNat*2+1) 0) (bs.length+1) 0 false
theorem Uq (bs:List Nat) (level:Int):qb bs (min (max level 0) 9)=qb bs level:=by
 unfold qb;rw [show min (max (min (max level 0) 9) 0) 9=min (max level 0) 9 by omega]
def ze3 (bs:List Nat) (level:Int) (w:World) (e:Ending) (w':World):Prop:=
 ∃ ao c r,e=.returned (.slice ao r.length c)∧KS w' ao r∧Below w.heap.size w w'∧(r.length≤c∧(ao=none→c=0)∧(0<level→r=[]→ao=none))∧M.ex r []=some bs∧(∀ t∈r,t.lit<256)∧(level≤0→∀ t∈r,t.len=0)∧(0<level→(∃ t∈r,t.len≠0)∨M.zbk bs)∧r=qb bs level
set_option maxHeartbeats 3200000 in
theorem zdO (ao:Option Addr) (c:Nat) (bs:List Nat) (level:Int) (w:World) (hT:yc w) (h:zi w (.slice ao bs.length c) bs) (hb:Bs bs) (hl:bs.length≤30000) :
  Calls prog 56 #[.slice ao bs.length c,.int .i64 level] w (ze3 bs level w):=by
 obtain ⟨i,hi⟩:=exq ((min (max level 0) 9).toNat:Nat);have hib:i≤9∧(i=0↔level≤0):=by omega
 have HIC:=J (show (level<0∧i=0)∨level=(i:Int)∨(9<level∧i=9) by omega);obtain ⟨pl,hpl⟩:=exq (eff.getD (i*2) 0);obtain ⟨wt,hwt⟩:=exq (eff.getD (i*2+1) 0);have HFF:Hid (qb bs level=if pl=0 then lits bs else jt bs pl wt (bs.length+1) 0 false):=J (by unfold qb;rw [←hi,←hpl,←hwt]);have t0:=hT (i*2) (by omega);have t1:=hT (i*2+1) (by omega);rw [←hpl] at t0;rw [←hwt] at t1;have HN:=J (show pl≤1000∧wt≤1000 from ⟨by rw [hpl];exact ze1 _ (by omega),by rw [hwt];exact ze1 _ (by omega)⟩);have HP:=J (show pl=0↔level≤0 by rw [hpl,zcE i (by omega)];exact hib.2);have HS:=J (And.intro h (And.intro hb (And.intro hl (zkL h))));have hib9:=hib.1;obtain ⟨W1,hW1⟩:=exq (w.alloc (.cells #[.int .i64 (pl:Nat),.int .i64 (wt:Nat)] 132));have hK1:Blk W1 w.heap.size 132 #[.int .i64 (pl:Nat),.int .i64 (wt:Nat)]:=by rw [hW1];exact Blk.made w 132 _
 have hB1:Below w.heap.size w W1:=by rw [hW1];exact (Below.refl _ _).alloc (Nat.le_refl _) _
 have HK1:=J hK1;have HB1:=J hB1;clear hi hpl hwt h hb hT hib hK1 hB1;have hmm := @run_makeMap prog;go_enter func56,ntmps56;go_upto_region 1 with fail
 go_cut [5] from 7 (fun s5 wx=>s5=.pointer (some ⟨w.heap.size,0,none⟩)∧wx=W1);case first=>
  have q0:(min (max level 0) 9).toNat=i:=by have:=HIC.out;omega
  have t2:w.cell? ⟨0,(min (max level 0) 9).toNat*2,none⟩=some (.int .i64 (pl:Nat)):=by rw [q0];exact t0
  have t3:w.cell? ⟨0,(min (max level 0) 9).toNat*2+1,none⟩=some (.int .i64 (wt:Nat)):=by rw [q0];exact t1
  have q3:0≤min (max level 0) 9:=by omega
  have q4:min (max level 0) 9≤9:=by omega
  clear q0 t0 t1;go_wp2;go_meet
  case rel=>exact ⟨rfl,hW1.symm⟩
 case rest=>
 obtain ⟨rfl,hwx⟩:=hcut;rw [hwx];have x0:=(HK1.out.cell 0).trans (show _=some (.int .i64 (pl:Nat)) from rfl);have x1:=(HK1.out.cell 1).trans (show _=some (.int .i64 (wt:Nat)) from rfl);clear hwx hW1 t0 t1 HIC;by_cases hp0:pl=0
 ·subst hp0
  have HLV:=J (HP.out.1 rfl);go_wp2_with fail
  refine (kB _ bs W1 (Xt HS.out.1 HB1.out) HS.out.2.1 HS.out.2.2.1).mono ?_;rintro e w2 ⟨ao2,c2,rfl,hks,hbel,hcc⟩;have HR:=J (And.intro hks (And.intro (Qk HB1.out hbel) hcc));clear hks hbel hcc;go_wp2;go_ret;exact ⟨ao2,c2,lits bs,rfl,HR.out.1,HR.out.2.1,⟨HR.out.2.2.1,HR.out.2.2.2,fun h=>by have:=HLV.out;omega⟩,by have:=vs bs [];simpa using this,fun t ht=>by obtain ⟨x,hx,rfl⟩:=List.mem_map.1 ht;exact HS.out.2.1 x hx,fun _ t ht=>by obtain ⟨x,hx,rfl⟩:=List.mem_map.1 ht;rfl,fun h=>by have:=HLV.out;omega,by rw [HFF.out];simp⟩
 ·have hp0':((pl:Int) == 0)=false:=by simp;omega
  have HLV:=J (show 0<level by have:=HP.out;omega);have HPN:=J hp0;obtain ⟨L,hL⟩:=exq (bs.length);have HL:=J hL;rw [←hL] at hl ⊢;have hmn:min (L:Int) 32768=(L:Int):=by omega
  have hlt:(L:Int)<32768:=by omega
  obtain ⟨ix,hix,hz0,hz1,hz2⟩:=info_parts (show (prog.info? 3).map (fun i=>(i.zero,i.size,i.bytes))=some (some (.int .i64 0),1,8) by kernel_rfl)
  have hmk:∀ W,(Instr.makeSlice 40 (.int .i64 (L:Int)) (.int .i64 (L:Int))).run prog W=.ok (.slice (some ⟨W.heap.size,0,none⟩) L L) (W.alloc (.cells (va L fun _ => .int .i64 0) 3)):=fun W=>by
   have hr:=run_make (P:=prog) W 40 3 ix (.int .i64 0) underlying40 hix hz0 .i64 .i64 (L:Int) (L:Int) (by omega) (Int.le_refl _) (by rw [hz2];omega) (by omega);rw [Int.toNat_natCast,hz1,vF,Nat.mul_one] at hr;have he:(va L fun i=>(Value.int .i64 0).cells[i%(Value.int .i64 0).cells.size]!)=va L fun _=>Value.int .i64 0:=zq fun i _=>by
    have hc:(Value.int .i64 0).cells = #[.int .i64 0]:=rfl;rw [hc];simp [Nat.mod_one]
   rw [he] at hr;exact hr
  clear hp0 hL hix hz0 hz1 hz2;have hA:∀ (W:World) (o:Obj) (j:Nat) (u:Value),W.cell? ⟨w.heap.size,j,none⟩=some u→(W.alloc o).cell? ⟨w.heap.size,j,none⟩=some u:=fun W o j u hu=>(((Below.refl W.heap.size W).alloc (Nat.le_refl _) o).cell (World.block_lt_of_cell? W _ hu)).trans hu
  have y0:=hA _ (.map #[] 0) 0 _ x0;have y1:=hA _ (.map #[] 0) 1 _ x1;have z0:=hA _ (.cells (va L fun _ => .int .i64 0) 3) 0 _ x0;have z1:=hA _ (.cells (va L fun _ => .int .i64 0) 3) 1 _ x1;have y2:=hA _ (.cells (va L fun _ => .int .i64 0) 3) 0 _ y0;have y3:=hA _ (.cells (va L fun _ => .int .i64 0) 3) 1 _ y1;have z2:=hA _ (.map #[] 0) 0 _ z0;have z3:=hA _ (.map #[] 0) 1 _ z1;clear hA;go_wp2;go_region
  ·have HFN:Hid (Fin (((W1.alloc (.map #[] 0)).alloc (.cells (va L fun _ => .int .i64 0) 3)).alloc (.cells #[.int .i64 (pl:Nat),.int .i64 (wt:Nat),.slice ao L c,.map (some W1.heap.size),.slice (some ⟨W1.heap.size+1,0,none⟩) L L,.bool false] 138)).drew w.heap.size (W1.heap.size+1+1) W1.heap.size (W1.heap.size+1) pl wt (.slice ao L c) bs false 0∧Below w.heap.size w (((W1.alloc (.map #[] 0)).alloc (.cells (va L fun _ => .int .i64 0) 3)).alloc (.cells #[.int .i64 (pl:Nat),.int .i64 (wt:Nat),.slice ao L c,.map (some W1.heap.size),.slice (some ⟨W1.heap.size+1,0,none⟩) L L,.bool false] 138)).drew):=J (by
    have s1:=Ul W1 (.map #[] 0);have s2:=Ul (W1.alloc (.map #[] 0)) (.cells (va L fun _ => .int .i64 0) 3);have hsz:=HB1.out.size;have b1:=HB1.out.alloc HB1.out.size (.map #[] 0);have b2:=b1.alloc b1.size (.cells (va L fun _ => .int .i64 0) 3);have b3:=b2.alloc b2.size (.cells #[.int .i64 (pl:Nat),.int .i64 (wt:Nat),.slice ao L c,.map (some W1.heap.size),.slice (some ⟨W1.heap.size+1,0,none⟩) L L,.bool false] 138);have b4:=zQ b3;refine ⟨⟨?_,Xt (by rw [HL.out];exact HS.out.1) b4,⟨_,((World.ownsMap_made W1 prog 105 (plainElem (H:=Unit) prog 3)).alloc _).alloc _,Mof.start bs⟩,⟨fun _=>0,?_,fun q hq=>by omega⟩,⟨by rw [HL.out];exact HS.out.2.2.2,by omega,by omega,by omega,by omega,by omega,by omega⟩,HN.out⟩,b4⟩
    ·rw [←HL.out]
     have:=Blk.made ((W1.alloc (.map #[] 0)).alloc (.cells (va L fun _ => .int .i64 0) 3)) 138 #[.int .i64 (pl:Nat),.int .i64 (wt:Nat),.slice ao L c,.map (some W1.heap.size),.slice (some ⟨W1.heap.size+1,0,none⟩) L L,.bool false];rw [s2,s1] at this;exact this
    ·rw [←HL.out]
     have:=Blk.made (W1.alloc (.map #[] 0)) 3 (va L fun _ => .int .i64 0);rw [s1] at this;exact (this.below ((Below.refl _ _).alloc (Nat.le_refl _) _)).drewN 1)
   have HSZ:Hid (W1.heap.size+1+1+1=(((W1.alloc (.map #[] 0)).alloc (.cells (va L fun _ => .int .i64 0) 3)).alloc (.cells #[.int .i64 (pl:Nat),.int .i64 (wt:Nat),.slice ao L c,.map (some W1.heap.size),.slice (some ⟨W1.heap.size+1,0,none⟩) L L,.bool false] 138)).drew.heap.size):=J (by simp);generalize (((W1.alloc (.map #[] 0)).alloc (.cells (va L fun _ => .int .i64 0) 3)).alloc (.cells #[.int .i64 (pl:Nat),.int .i64 (wt:Nat),.slice ao L c,.map (some W1.heap.size),.slice (some ⟨W1.heap.size+1,0,none⟩) L L,.bool false] 138)).drew=W3 at HFN HSZ ⊢;clear x0 x1 y0 y1 y2 y3 z0 z1 z2 z3 hmk hmm;go_wp2_with fail
   refine (JK (W1.heap.size+1+1) W1.heap.size (W1.heap.size+1) pl wt _ bs w.heap.size W3 HFN.out.1 HS.out.2.1 HS.out.2.2.1 HFN.out.2.size (by rw [←HSZ.out];omega)).mono ?_;rintro e w5 ⟨ao2,c2,r,rfl,h1,h2,h3,h4,h5,h6,h7⟩;have HRF:=J (show r=qb bs level by rw [HFF.out,if_neg HPN.out,h7]);clear h7;have HR:=J (And.intro h1 (And.intro (HFN.out.2.trans h2) (And.intro h3 (And.intro h4 (And.intro h5 h6)))));clear h1 h2 h3 h4 h5 h6;go_wp2;go_ret;exact ⟨ao2,c2,r,rfl,HR.out.1,HR.out.2.1,⟨HR.out.2.2.1.1,HR.out.2.2.1.2.1,fun _=>HR.out.2.2.1.2.2⟩,HR.out.2.2.2.1,HR.out.2.2.2.2.1,fun h=>by have:=HLV.out;omega,fun _=>HR.out.2.2.2.2.2,HRF.out⟩
  ·have HFN:Hid (Fin (((W1.alloc (.cells (va L fun _ => .int .i64 0) 3)).alloc (.map #[] 0)).alloc (.cells #[.int .i64 (pl:Nat),.int .i64 (wt:Nat),.slice ao L c,.map (some (W1.heap.size+1)),.slice (some ⟨W1.heap.size,0,none⟩) L L,.bool false] 138)).drew w.heap.size (W1.heap.size+1+1) (W1.heap.size+1) W1.heap.size pl wt (.slice ao L c) bs false 0∧Below w.heap.size w (((W1.alloc (.cells (va L fun _ => .int .i64 0) 3)).alloc (.map #[] 0)).alloc (.cells #[.int .i64 (pl:Nat),.int .i64 (wt:Nat),.slice ao L c,.map (some (W1.heap.size+1)),.slice (some ⟨W1.heap.size,0,none⟩) L L,.bool false] 138)).drew):=J (by
    have s1:=Ul W1 (.cells (va L fun _ => .int .i64 0) 3);have s2:=Ul (W1.alloc (.cells (va L fun _ => .int .i64 0) 3)) (.map #[] 0);have hsz:=HB1.out.size;have b1:=HB1.out.alloc HB1.out.size (.cells (va L fun _ => .int .i64 0) 3);have b2:=b1.alloc b1.size (.map #[] 0);have b3:=b2.alloc b2.size (.cells #[.int .i64 (pl:Nat),.int .i64 (wt:Nat),.slice ao L c,.map (some (W1.heap.size+1)),.slice (some ⟨W1.heap.size,0,none⟩) L L,.bool false] 138);have b4:=zQ b3;have hom:=World.ownsMap_made (W1.alloc (.cells (va L fun _ => .int .i64 0) 3)) prog 105 (plainElem (H:=Unit) prog 3);rw [s1] at hom;refine ⟨⟨?_,Xt (by rw [HL.out];exact HS.out.1) b4,⟨_,hom.alloc _,Mof.start bs⟩,⟨fun _=>0,?_,fun q hq=>by omega⟩,⟨by rw [HL.out];exact HS.out.2.2.2,by omega,by omega,by omega,by omega,by omega,by omega⟩,HN.out⟩,b4⟩
    ·rw [←HL.out]
     have:=Blk.made ((W1.alloc (.cells (va L fun _ => .int .i64 0) 3)).alloc (.map #[] 0)) 138 #[.int .i64 (pl:Nat),.int .i64 (wt:Nat),.slice ao L c,.map (some (W1.heap.size+1)),.slice (some ⟨W1.heap.size,0,none⟩) L L,.bool false];rw [s2,s1] at this;exact this
    ·rw [←HL.out]
     have:=Blk.made W1 3 (va L fun _ => .int .i64 0);exact ((this.below ((Below.refl _ _).alloc (Nat.le_refl _) _)).below ((Below.refl _ _).alloc (Nat.le_refl _) _)).drewN 1)
   have HSZ:Hid (W1.heap.size+1+1+1=(((W1.alloc (.cells (va L fun _ => .int .i64 0) 3)).alloc (.map #[] 0)).alloc (.cells #[.int .i64 (pl:Nat),.int .i64 (wt:Nat),.slice ao L c,.map (some (W1.heap.size+1)),.slice (some ⟨W1.heap.size,0,none⟩) L L,.bool false] 138)).drew.heap.size):=J (by simp);generalize (((W1.alloc (.cells (va L fun _ => .int .i64 0) 3)).alloc (.map #[] 0)).alloc (.cells #[.int .i64 (pl:Nat),.int .i64 (wt:Nat),.slice ao L c,.map (some (W1.heap.size+1)),.slice (some ⟨W1.heap.size,0,none⟩) L L,.bool false] 138)).drew=W3 at HFN HSZ ⊢;clear x0 x1 y0 y1 y2 y3 z0 z1 z2 z3 hmk hmm;go_wp2_with fail
   refine (JK (W1.heap.size+1+1) (W1.heap.size+1) W1.heap.size pl wt _ bs w.heap.size W3 HFN.out.1 HS.out.2.1 HS.out.2.2.1 HFN.out.2.size (by rw [←HSZ.out];omega)).mono ?_;rintro e w5 ⟨ao2,c2,r,rfl,h1,h2,h3,h4,h5,h6,h7⟩;have HRF:=J (show r=qb bs level by rw [HFF.out,if_neg HPN.out,h7]);clear h7;have HR:=J (And.intro h1 (And.intro (HFN.out.2.trans h2) (And.intro h3 (And.intro h4 (And.intro h5 h6)))));clear h1 h2 h3 h4 h5 h6;go_wp2;go_ret;exact ⟨ao2,c2,r,rfl,HR.out.1,HR.out.2.1,⟨HR.out.2.2.1.1,HR.out.2.2.1.2.1,fun _=>HR.out.2.2.1.2.2⟩,HR.out.2.2.2.1,HR.out.2.2.2.2.1,fun h=>by have:=HLV.out;omega,fun _=>HR.out.2.2.2.2.2,HRF.out⟩
theorem jm (w:World) (v:Value) (bs:List Nat) (level:Int) (hT:yc w) (h:zi w v bs) (hb:Bs bs) (hl:bs.length≤30000) :
  Calls prog 56 #[v,.int .i64 level] w (ze3 bs level w):=by
 obtain ⟨ao,c,rfl⟩:=qp h;exact zdO ao c bs level w hT h hb hl
end
end Go.Proofs.YtacpfpghokcdlaaGreatDoor.V
namespace Go.Proofs.YtacpfpghokcdlaaGreatDoor
set_option maxRecDepth 100000
theorem jl (P:List (Nat × Nat)):(qz P).length=(wid P+7)/8:=by simp [qz]
theorem KM {bs:List Nat}{s:Pst}{k:Nat}(h:zhs bs s k) (hl:(qz s.P).length≤2*bs.length+1000){j:Nat}(hj:j≤k):uR bs (qz s.P) j:=by
 obtain ⟨st,hi⟩:=h.infl _ (xP h.fit);exact ⟨(xP h.fit).1,hl,wid s.P,st,k,hi,(jl _).symm,hj⟩
theorem zdD {bs:List Nat}(hb:Bs bs) (hl:bs.length≤5000):uR bs (jY bs) 1:=by
 have hs:xg 0 bs true=xe 0 bs true:=x4 0 true (by omega);have hf:=jo 0 true hb;have e:=kI hb;rw [hs] at e hf;have hh:=xP hf;rw [←e];have hB:=yr (lim:=bs.length) (pos:=0) (o:=[]) true hb (by omega) (by simp);obtain ⟨st,hi⟩:=(NL.nil bs.length).done hB (show jL (qz (xe 0 bs true)) ([]++xe 0 bs true) from hh);refine ⟨hh.1,?_,_,st,_,hi,(jl _).symm,by omega⟩;rw [e,XZ];unfold bnd;omega
def uk (bs:List Nat) (k:Nat):List Nat:=
 if k=0 then jY bs
 else if (qz (pkS bs [bs.length] ⟨V.qb bs (k:Int),0,[]⟩).P).length≤bnd bs.length then qz (pkS bs [bs.length] ⟨V.qb bs (k:Int),0,[]⟩).P else jY bs
theorem zg3 {bs:List Nat}{k:Nat}(hb:Bs bs) (hl:bs.length≤5000) (hA:AP bs [bs.length] (V.qb bs (k:Int))):uR bs (uk bs k) 1∧(uk bs k).length≤bnd bs.length:=by
 have hs:=zdD hb hl;have hsl:=XZ bs;have hE:Ends bs.length [bs.length]:=⟨List.pairwise_singleton _ _,rfl,fun e he=>by rw [List.mem_singleton] at he;omega⟩
 obtain ⟨j,hj,hF⟩:=uB hb (by omega) hE hA;unfold uk;split
 ·exact ⟨hs,by omega⟩
 ·split
  ·rename_i h
   exact ⟨KM hF (by unfold bnd at h;omega) (by simpa using hj),h⟩
  ·exact ⟨hs,by omega⟩
theorem zbb {bs:List Nat}{r:List Tok}(hx:V.M.ex r []=some bs) (hl:∀ t∈r,t.lit<256):AP bs [bs.length] r:=by
 refine ⟨hx,zlZ hx hl,fun e he=>?_⟩;rw [List.mem_singleton] at he;have h1:=V.M.xk hx;exact ⟨r.length,Nat.le_refl _,by rw [List.take_length,he,h1];simp⟩
theorem ziW {w:World}{b off:Nat}{r:List Tok}(h:V.KS w (some ⟨b,off,none⟩) r) (k:Nat) (hk:k≤r.length):V.KS w (some ⟨b,off+k*3,none⟩) (r.drop k):=by
 rcases h with rfl | ⟨b',off',e,hc⟩
 ·exact .inl (by simp)
 ·cases e
  refine .inr ⟨b,off+k*3,rfl,fun j v hv=>?_⟩;have hsplit:V.tcl r=V.tcl (r.take k)++V.tcl (r.drop k):=by rw [V.uj,List.take_append_drop]
  have hlen:(V.tcl (r.take k)).length=k*3:=by rw [V.yJ,List.length_take,Nat.min_eq_left hk]
  have:=hc (k*3+j) v (by rw [hsplit,List.getElem?_append_right (by omega),hlen,Nat.add_sub_cancel_left];exact hv);rwa [←Nat.add_assoc] at this
theorem zfY (bs:List Nat):uk bs 0=jY bs:=if_pos rfl
section
open V (qH jt qb la qU gvF)
theorem zdm {b:List Nat}{at_ most:Nat}(ha:at_≤32768) (hl:at_≤b.length):∀ (left:Nat) (pl:Int) (L D:Nat),-1≤pl→pl<at_→L≤most→((L=0∧D=0)∨V.M.Cop b at_ L D)→
  (V.M.xC b at_ most left pl L D).1≤most∧(((V.M.xC b at_ most left pl L D).1=0∧(V.M.xC b at_ most left pl L D).2=0)∨V.M.Cop b at_ (V.M.xC b at_ most left pl L D).1 (V.M.xC b at_ most left pl L D).2):=by
 intro left;induction left with
 | zero=>intro pl L D _ _ h3 h4;exact ⟨h3,h4⟩
 | succ n ih=>
  intro pl L D h1 h2 h3 h4;rw [V.M.xC];split
  ·rename_i hc
   obtain ⟨p,rfl⟩:∃ p:Nat,pl=(p:Int):=⟨pl.toNat,by omega⟩;rw [Int.toNat_natCast];have hb:=V.M.XT b (V.M.zM b p) p;split
   ·exact ih _ _ _ hb.1 (by omega) (V.M.zb2 b _ most at_) (.inr (V.M.UL (by omega) ha hl))
   ·exact ih _ _ _ hb.1 (by omega) h3 h4
  ·exact ⟨h3,h4⟩
def Tk1 (bs:List Nat) (a:Nat) (t:Tok):Prop:=t=⟨bs.getD a 0,0,0⟩∨(t.lit=0∧3≤t.len∧t.len≤258∧V.M.Cop bs a t.len t.dist)
theorem kw {bs:List Nat}{a pl:Nat}{cop:Bool}(ha:a≤32768) (hl:a≤bs.length):Tk1 bs a (qH bs a cop pl):=by
 have hla : -1≤la bs a∧la bs a<a:=by
  unfold la;split
  ·exact V.M.XT _ _ _
  ·omega
 have h:=zdm (most:=min 258 (bs.length-a)) ha hl (if cop then pl else 32768) (la bs a) 0 0 hla.1 hla.2 (Nat.zero_le _) (.inl ⟨rfl,rfl⟩);unfold qH;generalize (if cop then pl else 32768)=lf at h ⊢;split
 ·rename_i hw
  right;have h3:3≤(V.M.xC bs a (min 258 (bs.length-a)) lf (la bs a) 0 0).1:=by
   unfold qU at hw;simp at hw;omega
  refine ⟨rfl,h3,by have:=h.1;simp only;omega,?_⟩;rcases h.2 with h0 | h0
  ·omega
  ·exact h0
 ·exact .inl rfl
theorem Tk1.one {bs:List Nat}{a:Nat}{t:Tok}(hb:Bs bs) (h:Tk1 bs a t) (ha:a<bs.length):z7 t∧t.dist≤a∧V.M.one t (bs.take a)=bs.take (a+V.M.tells t)∧a+V.M.tells t≤bs.length:=by
 rcases h with rfl | ⟨h1,h2,h3,h4⟩
 ·refine ⟨⟨.inl ⟨rfl,rfl⟩,?_⟩,Nat.zero_le _,V.M.zb5 bs a ha,by unfold V.M.tells;show a+max 0 1≤_;omega⟩
  show bs.getD a 0<256;rw [List.getD_eq_getElem?_getD,List.getElem?_eq_getElem ha];exact hb _ (List.getElem_mem ha)
 ·obtain ⟨l,n,d⟩:=t
  simp only at h1 h2 h3 h4;subst h1;obtain ⟨c1,c2,c3,c4,c5⟩:=h4;have ht:V.M.tells ⟨0,n,d⟩=n:=by unfold V.M.tells;show max n 1=n;omega
  rw [ht];exact ⟨⟨.inr ⟨h2,h3,c1,c3,rfl⟩,Nat.zero_lt_succ _⟩,c2,V.M.vZ bs a d n (by omega) c4 c1 c2 c5,c4⟩
theorem zig {bs:List Nat}{pl wt:Nat}(hb:Bs bs) (hl:bs.length≤30000):∀ (fu a:Nat) (cop:Bool),bs.length<a+fu→a≤bs.length→V.M.ex (jt bs pl wt fu a cop) (bs.take a)=some bs∧∀ t∈jt bs pl wt fu a cop,z7 t:=by
 intro fu;induction fu with
 | zero=>intro a cop h1 h2;omega
 | succ fu ih=>
  intro a cop h1 h2;rcases Nat.lt_or_ge a bs.length with ha | ha
  ·obtain ⟨t,ht⟩:=exq (if gvF bs a cop pl wt (qH bs a cop pl).len then ⟨bs.getD a 0,0,0⟩ else qH bs a cop pl:Tok)
   have h1t:Tk1 bs a t:=by
    rw [ht];split
    ·exact .inl rfl
    ·exact kw (by omega) h2
   obtain ⟨k1,k2,k3,k4⟩:=h1t.one hb ha;have hp:=V.M.xm t;rw [V.kK ha ht];obtain ⟨i1,i2⟩:=ih (a+V.M.tells t) (cop || decide (0<t.len)) (by omega) k4;refine ⟨?_,fun x hx=>?_⟩
   ·rw [V.M.ex,if_pos ⟨k1.1,by rw [List.length_take];omega⟩,k3]
    exact i1
   ·rcases List.mem_cons.1 hx with rfl | hx
    ·exact k1
    ·exact i2 x hx
  ·rw [V.Jh ha]
   have:a=bs.length:=by omega
   subst this;exact ⟨by rw [List.take_length];rfl,fun t ht=>by cases ht⟩
theorem yW {bs:List Nat}(level:Int) (hb:Bs bs) (hl:bs.length≤30000):V.M.ex (qb bs level) []=some bs∧∀ t∈qb bs level,z7 t:=by
 unfold qb;split
 ·refine ⟨by have:=V.vs bs [];simpa using this,fun t ht=>?_⟩
  unfold V.lits at ht;obtain ⟨c,hc,rfl⟩:=List.mem_map.1 ht;exact ⟨.inl ⟨rfl,rfl⟩,hb c hc⟩
 ·exact zig hb hl _ 0 false (by omega) (Nat.zero_le _)
theorem zeD {bs:List Nat}(level:Int) (hb:Bs bs) (hl:bs.length≤30000):AP bs [bs.length] (qb bs level):=zbb (yW level hb hl).1 fun t ht=>((yW level hb hl).2 t ht).2
section
variable {c n:Nat}
theorem ym {i:Nat}(h:i<n):(List.replicate n c).getD i 0=c:=by
 rw [List.getD_eq_getElem?_getD,List.getElem?_replicate_of_lt h];rfl
theorem zcN {i:Nat}(h:i+3≤n):V.M.zM (List.replicate n c) i=c+256*c+65536*c:=by
 unfold V.M.zM;rw [ym (by omega),ym (by omega),ym (by omega)]
theorem zeR (most:Nat):∀ a,1≤a→a+most≤n→V.M.same (List.replicate n c) a 1 most=most:=by
 induction most with
 | zero=>intro a _ _;rfl
 | succ m ih=>
  intro a h1 h2;rw [V.M.same,if_pos ⟨by rw [List.length_replicate];omega,Nat.le_refl _,h1,by rw [ym (by omega),ym (by omega)]⟩,ih (a+1) (by omega) (by omega)];omega
theorem zkk {a:Nat}(h1:1≤a) (h2:a+3≤n):la (List.replicate n c) a=((a-1:Nat):Int):=by
 unfold la;rw [if_pos (by rw [List.length_replicate];exact h2)];have hb:=V.M.XT (List.replicate n c) (V.M.zM (List.replicate n c) a) a;have hg:=V.M.zeM (b:=List.replicate n c) (k:=V.M.zM (List.replicate n c) a) (q:=a-1) (n:=a) (by omega) (by rw [zcN h2,zcN (by omega)]);omega
theorem ziy {a pl:Nat}{cop:Bool}(hp:1≤pl) (h1:1≤a) (h2:a+4≤n):qH (List.replicate n c) a cop pl=⟨0,min 258 (n-a),1⟩:=by
 obtain ⟨lf,hlf⟩:∃ lf,(if cop then pl else 32768)=lf+1:=⟨(if cop then pl else 32768)-1,by split <;> omega⟩;have hs:V.M.xC (List.replicate n c) a (min 258 ((List.replicate n c).length-a)) (if cop then pl else 32768) (la (List.replicate n c) a) 0 0=(min 258 (n-a),1):=by
  rw [List.length_replicate,hlf,zkk h1 (by omega)];have hsm:=zeR (c:=c) (n:=n) (min 258 (n-a)) a h1 (by omega);have e1:a-(a-1)=1:=by omega
  rw [V.M.zae (p:=a-1) (by omega) (by rw [ym (by omega),ym (by omega)]) (by rw [e1,hsm];omega),e1,hsm];exact V.M.KL (.inr (.inl (Nat.le_refl _)))
 unfold qH;rw [hs];simp only;rw [if_pos (by unfold qU;simp;omega)]
theorem zjw {a pl:Nat}{cop:Bool}(ha:a≤32768) (hl:a≤n):(qH (List.replicate n c) a cop pl).len≤n-a:=by
 rcases kw (bs:=List.replicate n c) (a:=a) (cop:=cop) (pl:=pl) ha (by rw [List.length_replicate];exact hl) with h | ⟨_,_,_,h⟩
 ·rw [h];exact Nat.zero_le _
 ·have:=h.2.2.2.1
  rw [List.length_replicate] at this;omega
theorem zhU {pl wt:Nat}(hc:c<256) (hp:1≤pl) (hn:n≤30000):∀ (fu a:Nat) (cop:Bool),1≤a→a≤n→(jt (List.replicate n c) pl wt fu a cop).length≤(n-a)/258+4∧(n≤a+3→(jt (List.replicate n c) pl wt fu a cop).length≤n-a):=by
 have hbs:Bs (List.replicate n c):=fun x hx=>by rw [List.eq_of_mem_replicate hx];exact hc
 intro fu;induction fu with
 | zero=>intro a cop _ _;exact ⟨by simp [jt],fun _=>by simp [jt]⟩
 | succ fu ih=>
  intro a cop h1 h2;rcases Nat.lt_or_ge a n with ha | ha
  ·have ha':a<(List.replicate n c).length:=by rw [List.length_replicate];exact ha
   obtain ⟨t,ht⟩:=exq (if gvF (List.replicate n c) a cop pl wt (qH (List.replicate n c) a cop pl).len then ⟨(List.replicate n c).getD a 0,0,0⟩ else qH (List.replicate n c) a cop pl:Tok);have h1t:Tk1 (List.replicate n c) a t:=by
    rw [ht];split
    ·exact .inl rfl
    ·exact kw (by omega) (by omega)
   obtain ⟨_,_,_,k4⟩:=h1t.one hbs ha';rw [List.length_replicate] at k4;have hpos:=V.M.xm t;rw [V.kK ha' ht,List.length_cons];obtain ⟨i1,i2⟩:=ih (a+V.M.tells t) (cop || decide (0<t.len)) (by omega) k4;by_cases h4:a+4≤n
   ·have htk:=ziy (c:=c) (cop:=cop) hp h1 h4
    have hg:gvF (List.replicate n c) a cop pl wt (qH (List.replicate n c) a cop pl).len=false:=by
     rw [htk];have h5:=zjw (c:=c) (n:=n) (a:=a+1) (pl:=pl) (cop:=cop) (by omega) (by omega);have h6:(qH (List.replicate n c) (a+1) cop pl).len≤258:=by
      rcases kw (bs:=List.replicate n c) (a:=a+1) (cop:=cop) (pl:=pl) (by omega) (by rw [List.length_replicate];omega) with h | ⟨_,_,h,_⟩
      ·rw [h];exact Nat.zero_le _
      ·exact h
     unfold gvF;simp only;rw [decide_eq_false (show ¬min 258 (n-a)<(qH (List.replicate n c) (a+1) cop pl).len by omega),Bool.and_false]
    rw [hg,if_neg (by decide),htk] at ht;have htl:V.M.tells t=min 258 (n-a):=by rw [ht];unfold V.M.tells;show max (min 258 (n-a)) 1=_;omega
    rw [htl] at i1 i2 ⊢;refine ⟨?_,fun h=>by omega⟩
    rcases Nat.lt_or_ge (n-a) 258 with h7 | h7
    ·have:=i2 (by omega)
     omega
    ·have e:(n-a)/258=(n-(a+min 258 (n-a)))/258+1:=by
      rw [show min 258 (n-a)=258 by omega,show n-a=n-(a+258)+258 by omega,Nat.add_div_right _ (by decide)]
     omega
   ·have:=i2 (by omega)
    exact ⟨by omega,fun _=>by omega⟩
  ·rw [V.Jh (by rw [List.length_replicate];exact ha)]
   exact ⟨Nat.zero_le _,fun _=>Nat.zero_le _⟩
theorem zeG {k:Nat}(hc:c<256) (h1:1≤k) (h9:k≤9) (hn0:1≤n) (hn:n≤30000):(qb (List.replicate n c) (k:Int)).length≤n/258+5:=by
 have hbs:Bs (List.replicate n c):=fun x hx=>by rw [List.eq_of_mem_replicate hx];exact hc
 have hk:(min (max (k:Int) 0) 9).toNat=k:=by omega
 have hp:=V.zcE k (by omega);unfold qb;rw [hk,if_neg (by omega)];obtain ⟨pl,hpl⟩:=exq (V.eff.getD (k*2) 0);obtain ⟨wt,hwt⟩:=exq (V.eff.getD (k*2+1) 0);rw [←hpl] at hp ⊢;rw [←hwt,List.length_replicate];have ha':0<(List.replicate n c).length:=by rw [List.length_replicate];exact hn0
 obtain ⟨t,ht⟩:=exq (if gvF (List.replicate n c) 0 false pl wt (qH (List.replicate n c) 0 false pl).len then ⟨(List.replicate n c).getD 0 0,0,0⟩ else qH (List.replicate n c) 0 false pl:Tok);have h1t:Tk1 (List.replicate n c) 0 t:=by
  rw [ht];split
  ·exact .inl rfl
  ·exact kw (by omega) (by omega)
 obtain ⟨_,_,_,k4⟩:=h1t.one hbs ha';rw [List.length_replicate] at k4;have hpos:=V.M.xm t;rw [V.kK ha' ht,List.length_cons];have:=(zhU (c:=c) (n:=n) (pl:=pl) (wt:=wt) hc (by omega) hn n (0+V.M.tells t) (false || decide (0<t.len)) (by omega) k4).1;have e:(n-(0+V.M.tells t))/258≤n/258:=Nat.div_le_div_right (by omega);omega
end
theorem zjr {t:Tok}(h:z7 t):wid (jx zU ql t)≤32:=by
 rw [JE];have a1:∀ y,y<288→ln zU y≤9:=by decide +kernel
 have a2:∀ y,y<30→ln ql y≤5:=by decide +kernel
 have a3:∀ i,i<29→LXs.getD i 0≤5:=by decide
 have a4:∀ i,i<30→DXs.getD i 0≤13:=by decide
 have b1:=a1 _ (show fsy t<288 by have:=h.fsy.1;omega);by_cases h0:t.len=0
 ·simp only [h0,ne_eq,not_true,if_false]
  omega
 ·have b2:=a2 _ (h.dsy h0)
  have h1:=h.len h0;have b3:=a3 _ (lix h1.1 h1.2.1).2.1;have b4:=a4 _ (dix h1.2.2.1 h1.2.2.2).2.1;simp only [ne_eq,h0,not_false_eq_true,if_true];unfold lxt dxt;omega
theorem zez {r:List Tok}(h:∀ t∈r,z7 t):wid (zG zU ql r)≤32*r.length:=by
 induction r with
 | nil=>exact Nat.le_refl _
 | cons t r ih=>
  have e:zG zU ql (t::r)=jx zU ql t++zG zU ql r:=rfl;rw [e,zh,List.length_cons];have:=ih fun x hx=>h x (List.mem_cons_of_mem _ hx)
  have:=zjr (h t (List.mem_cons_self ..));omega
theorem ziK {pos:Nat}{r:List Tok}{b:List Nat}(last:Bool) (h:∀ t∈r,z7 t) (hl:b.length≤65535):wid (xq pos r b last)≤32*r.length+12:=by
 have h1:=Jn (pos:=pos) last h hl;have h2:=zbW last h pos;have h3:=zez h;have h4:ln zU 256≤9:=by decide +kernel
 unfold Jf at h2;simp only [wid,zh,cp] at h2;omega
theorem zlo (most:Nat):∀ (r:List Tok) (k told:Nat),r.length≤k→told+V.M.sum r≤most→upN most r k told=r.length:=by
 intro r;induction r with
 | nil=>intro k told _ _;rfl
 | cons t r ih=>
  intro k told hk hs;rw [V.M.sum_cons] at hs;rw [List.length_cons] at hk;have:=V.M.xm t;rw [upN,if_pos ⟨by omega,by omega⟩,ih _ _ (by omega) (by omega),List.length_cons]
theorem zcP {bs:List Nat}{r:List Tok}(hx:V.M.ex r []=some bs) (hl:r.length≤16384):(pkS bs [bs.length] ⟨r,0,[]⟩).P=xq 0 r bs true:=by
 have hs:=V.M.xk hx;simp only [List.length_nil,Nat.zero_add] at hs;have e1:pk1 bs bs.length ⟨r,0,[]⟩=⟨[],bs.length,xq 0 r bs true⟩:=by
  have hu:=zlo bs.length r 16384 0 hl (by omega);unfold pk1;simp [hu,←hs,wid]
 rw [pkS,pkB,e1];simp only [Nat.lt_irrefl,if_false];rfl
theorem ziz {c n k:Nat}(hc:c<256) (h1:1000≤n) (h2:n≤5000) (h3:1≤k) (h4:k≤9):(uk (List.replicate n c) k).length≤n/10:=by
 have hbs:Bs (List.replicate n c):=fun x hx=>by rw [List.eq_of_mem_replicate hx];exact hc
 have hf:=zeG (c:=c) (n:=n) hc h3 h4 (by omega) (by omega);obtain ⟨hx,hok⟩:=yW (bs:=List.replicate n c) (k:Int) hbs (by rw [List.length_replicate];omega);obtain ⟨r,hr⟩:=exq (qb (List.replicate n c) (k:Int));unfold uk;rw [←hr] at hf hx hok ⊢;rw [if_neg (by omega),zcP hx (by omega),jl];have hw:=ziK (pos:=0) (b:=List.replicate n c) true hok (by rw [List.length_replicate];omega);rw [List.length_replicate];split
 ·rw [jl];omega
 ·rename_i h
  exfalso;unfold bnd at h;omega
end
section
open Go.Lib renaming hid → J
open Go.RowKit
theorem zc3 (n:Nat) (hn:n≤1099511627776) (w:World):Calls prog 129 #[.int .i64 n] w fun e w'=>e=.returned (.int .i64 ((n+7)/8:Nat))∧w'=w:=by
 have e1:IntKind.i64.wrap ((n:Int)+7)=(n:Int)+7:=by rw [IntKind.wrap_i64];omega
 obtain ⟨k,hk⟩:=exq ((n+7)/8);have e2:((n:Int)+7)/8=(k:Int):=by omega
 rw [←hk];have E2:=J e2;clear hk e2;go_enter func129,ntmps129;go_wp2;go_ret;exact ⟨congrArg (fun x=>Ending.returned (Value.int .i64 x)) E2.out,rfl⟩
theorem uY {w:World}{base pw pk:Nat}{g:Option Nat}{P:List (Nat × Nat)}(h:Wq w base pw g P) (ho:PkO w pk pw) (hn:wid P≤1000000000) :
  Calls prog 87 #[.pointer (some ⟨pk,0,none⟩)] w fun e w'=>e=.returned (.int .i64 (wid P+3:Nat))∧w'=w:=by
 have c0:=ho.cell;have HL:=J (Wr.len h);obtain ⟨n,hw⟩:=exq (wid P);rw [←hw] at hn HL ⊢;obtain ⟨m,hm⟩:=exq (n+3);have e1:IntKind.i64.wrap ((n:Int)+3)=(m:Int):=by rw [IntKind.wrap_i64];omega
 rw [←hm];clear h ho hw hm;go_enter func87,ntmps87;go_wp2_with (go_at_call 130;(refine HL.out.mono ?_);rintro e w' ⟨rfl,rfl⟩);go_ret;exact ⟨rfl,rfl⟩
theorem Kf {w:World}{base pw pk:Nat}{g:Option Nat}{P:List (Nat × Nat)}(h:Wq w base pw g P) (ho:PkO w pk pw) (hn:wid P≤1000000000) (m:Nat) (hm:m≤1000000) :
  Calls prog 86 #[.pointer (some ⟨pk,0,none⟩),.int .i64 m] w fun e w'=>e=.returned (.int .i64 (jF (wid P) m:Nat))∧Below w.heap.size w w':=by
 have HH:=J (uY h ho hn);have hb:bnd m≤2000000:=by unfold bnd;omega
 obtain ⟨k,hk⟩:=exq ((wid P+3+7)/8);obtain ⟨B,hB⟩:=exq (bnd m);obtain ⟨r,hr⟩:=exq (jF (wid P) m);have hr':=hr;unfold jF at hr';obtain ⟨n,hw⟩:=exq (wid P+3);have HF:=J (fun W=>zc3 n (by omega) W)
 have HBD:=J (fun W=>vQ W m (by omega))
 rw [←hw] at HH hk hr';rw [←hk] at HF hr';rw [←hB] at HBD hr' hb;rw [←hr];have e1:IntKind.i64.wrap ((k:Int)-1)=(k:Int)-1:=by rw [IntKind.wrap_i64];omega
 have e2:IntKind.i64.wrap ((k:Int)-1+B)=(k:Int)-1+B:=by rw [IntKind.wrap_i64];omega
 have e3:IntKind.i64.wrap (((k:Int)-1+B)*8)=(r:Int):=by rw [IntKind.wrap_i64];omega
 clear h ho hw hr' hr hB hk hn hm hb;go_enter func86,ntmps86;go_wp2_with fail
 refine HH.out.mono ?_;rintro e w' ⟨rfl,rfl⟩;go_wp2_with fail
 refine (HF.out w').mono ?_;rintro e w2 ⟨rfl,rfl⟩;go_wp2_with fail
 refine (HBD.out w2).mono ?_;rintro e w3 ⟨rfl,hb⟩;have HB:=J hb;clear hb;go_wp2;go_ret;exact ⟨rfl,HB.out⟩
theorem UT (y:Nat) (w:World):Calls prog 134 #[.int .i64 y] w fun e w'=>e=.returned (.int .i64 (xb y:Nat))∧w'=w:=by
 by_cases c1:y=16
 ·subst c1
  go_enter func134,ntmps134;go_wp2;go_ret;exact ⟨rfl,rfl⟩
 ·by_cases c2:y=17
  ·subst c2
   go_enter func134,ntmps134;go_wp2;go_ret;exact ⟨rfl,rfl⟩
  ·by_cases c3:y=18
   ·subst c3
    go_enter func134,ntmps134;go_wp2;go_ret;exact ⟨rfl,rfl⟩
   ·have e:xb y=0:=by unfold xb;rw [if_neg c1,if_neg c2,if_neg c3]
    rw [e];have d1:((y:Int) == 16)=false:=by simp;omega
    have d2:((y:Int) == 17)=false:=by simp;omega
    have d3:((y:Int) == 18)=false:=by simp;omega
    have D:=J (show True from trivial);clear c1 c2 c3 e;go_enter func134,ntmps134;go_wp2;go_ret;exact ⟨rfl,rfl⟩
structure JQ (w:World) (q:Nat) (A:Nat→Option Addr) (C:Nat→Nat) (Z:Nat→List Int):Prop where
 cell:∀ k,k<2→w.cell? ⟨q,k,none⟩=some (.slice (A k) (Z k).length (C k))
 is:∀ k,k<2→IS w (A k) (Z k)
 some_:∀ k,k<2→A k=none→C k=0
 len:∀ k,k<2→(Z k).length≤300
theorem JQ.below {w w':World}{q:Nat}{A:Nat→Option Addr}{C:Nat→Nat}{Z:Nat→List Int}(h:JQ w q A C Z) (hb:Below w.heap.size w w'):JQ w' q A C Z:=
 ⟨fun k hk=>(hb.cell (World.block_lt_of_cell? w _ (h.cell k hk))).trans (h.cell k hk),fun k hk=>(h.is k hk).below hb,h.some_,h.len⟩
theorem JQ.cat_le {w:World}{q:Nat}{A:Nat→Option Addr}{C:Nat→Nat}{Z:Nat→List Int}(h:JQ w q A C Z):∀ k,k≤2→(cat Z k).length≤300*k:=by
 intro k;induction k with
 | zero=>intro _;simp [xy]
 | succ k ih=>
  intro hk;rw [jy,List.length_append];have:=ih (by omega);have:=h.len k (by omega);omega
set_option maxHeartbeats 1600000 in
theorem zbu (q:Nat) (A:Nat→Option Addr) (C:Nat→Nat) (Z:Nat→List Int) (w:World) (h:JQ w q A C Z) (h1:1≤(cat Z 2).length) :
  Calls prog 120 #[.slice (some ⟨q,0,none⟩) 2 2] w (zlG w (cat Z 2)):=by
 have hle:=h.cat_le;have H:=J h;clear h;go_enter func120,ntmps120;go_wp2;go_loop [3,11] (fun v iv'=>∃ k:Nat,k≤2∧iv' = .int .i64 k∧v=.int .i64 ((cat Z k).length:Nat)) (fun _ iv'=>2-(intOf iv').toNat)
 case atStart=>exact ⟨0,by omega,rfl,by simp [xy]⟩
 case round=>
  obtain ⟨k,hk,rfl,rfl⟩:=hrel;by_cases hlt:k<2
  ·have hc:=H.out.cell k hlt
   have hl:=H.out.len k hlt;have hs:=hle k hk;have hlt':(k:Int)<2:=by omega
   obtain ⟨m,hm⟩:=exq ((cat Z k).length);have HS:Hid ((cat Z (k+1)).length=m+(Z k).length):=J (by rw [jy,List.length_append,hm]);rw [←hm] at hs ⊢;have d0:decide (((m:Int)+(Z k).length)<0)=false:=by simp;omega
   clear hm;go_wp2;go_round
   case rel=>exact ⟨k+1,by omega,by go_num,by rw [HS.out];go_num⟩
   case measure=>simp [intOf];omega
  ·have hk4:k=2:=by omega
   have hge:(2:Int)≤k:=by omega
   have hs:=hle 2 (by omega);obtain ⟨m,hm⟩:=exq ((cat Z k).length);have hm4:(cat Z 2).length=m:=by rw [hm,hk4]
   rw [hm4] at hs h1;rw [←hm];have HM:=J hm4;clear hm hm4 hk4;go_wp2_with (go_at_call 152;(refine (KW m _ h1 (by omega)).mono ?_);rintro e w2 ⟨c,rfl,ho,hb⟩;have HO:=J ho;have HB:=J hb;clear ho hb);go_loopw [6,27] (fun v iv' wr=>∃ (k:Nat) (ao:Option Addr) (c:Nat),k≤2∧iv' = .int .i64 k∧v=.slice ao (cat Z k).length c∧wr.ownsRow w.heap.size 3 1 (.slice ao (cat Z k).length c) (cat Z k).length (iv (cat Z k))∧Below w.heap.size w wr) (fun _ iv' _=>2-(intOf iv').toNat)
   case atStart=>exact ⟨0,some ⟨w.heap.size,0,none⟩,c,by omega,rfl,by simp [xy],by simpa [xy,iv] using HO.out,HB.out⟩
   case round=>
    clear HO HB;obtain ⟨k,ao,c,hk,rfl,rfl,ho,hb⟩:=hrel;have HO:=J ho;have HB:=J hb;clear ho hb;by_cases hlt:k<2
    ·have H2:=J (H.out.below HB.out)
     have hc:=H2.out.cell k hlt;have hl:=H2.out.len k hlt;have hs:=hle k hk;have hlt':(k:Int)<2:=by omega
     have HCA:=J ((H2.out.is k hlt).cells (c:=C k) fun _=>H2.out.some_ k hlt);obtain ⟨ys,hys⟩:=exq (cat Z k);have hys1:Hid (cat Z (k+1)=ys++Z k):=J (by rw [jy,hys]);rw [←hys] at HO hs ⊢;have hsz:=HB.out.size;clear hys;go_wp2_with (refine ze kg rfl (.tmp 31) (.tmp 32) rfl w.heap.size (.slice ao ys.length c) (.slice (A k) (Z k).length (C k)) ys.length (Z k).length (iv ys) (iv (Z k)) rfl rfl HO.out HCA.out (by simp [Qy]) (zbn _) hsz (by omega) (by omega) ?_;intro ao2 c2 w4 hA;have HA:=J hA;clear hA);go_roundw;case rel=>
      refine ⟨k+1,ao2,c2,by omega,by go_num,?_,?_,HB.out.trans (HA.out.below HO.out hsz)⟩
      ·rw [hys1.out,List.length_append]
      ·have:=HA.out.own
       rw [jM] at this;rw [hys1.out,List.length_append];exact this
     case measure=>simp [intOf];omega
    ·have hge:(2:Int)≤k:=by omega
     have hk4:=J (show k=2 by omega);go_wp2;go_ret;have e:=hk4.out;subst e;exact ⟨ao,c,rfl,HO.out,HB.out⟩
theorem Jb (ls:List Nat):nat (Y.ints ls)=ls:=Jz ls
theorem KH (ns:List Nat) (lim:Nat) (ao:Option Addr) (c n:Nat) (w:World) (h:IS w ao (Y.ints ns)) (hn:n=ns.length) (hl:ns.length≤320) (hM:∀ x∈ns,x≤1099511627776) (hlim:1≤lim∧lim≤15) (hu:uses ns≤2^lim) :
  Calls prog 161 #[.slice ao n c,.int .i64 lim] w fun e w'=>∃ g,e=.returned (.tuple #[.slice (some ⟨g,0,none⟩) n n,.int .i64 0])∧Blk w' g 3 (va n fun y => .int .i64 ((zT ns lim).getD y 0:Nat))∧Below w.heap.size w w'∧w.heap.size≤g:=by
 subst hn;have hf:Y.zd4 (Y.ints ns) lim:=⟨by rw [Y.zj];exact hl,fun z hz=>by
  obtain ⟨x,hx,rfl⟩:=List.mem_map.1 hz;have:=hM x hx;unfold Y.QC;omega,hlim⟩
 have:=Y.zau ao c (Y.ints ns) lim w h hf;rw [Y.zj] at this;refine this.mono ?_;rintro e w' (⟨h1,_⟩ | ⟨g,us,rfl,hU,hul,hB,hb,hg⟩)
 ·rw [Jb] at h1
  exact absurd h1 (by unfold uses at hu;omega)
 ·rw [Jb] at hU hB
  rw [Y.zj] at hB ⊢;have hus:us=usF ns:=zia hU.perm (hU.lex.imp fun h=>by unfold yk;exact decide_eq_true h);subst hus;refine ⟨g,rfl,?_,hb,hg⟩;have e:va ns.length (fun y => .int .i64 ((zT ns lim).getD y 0:Nat))=ia ns.length (Y.LF (usF ns) (Y.ju (Y.cts ns (usF ns)) (lim-1))):=zq fun i hi=>by
   unfold zT;rw [Y.kQ _ _ _ hi]
  rw [e];exact hB
def zmc (w:World) (ls:List Nat) (e:Ending) (w':World):Prop:=∃ g c,e=.returned (.slice (some ⟨g,0,none⟩) ls.length c)∧IS w' (some ⟨g,0,none⟩) (Y.ints ls)∧Below w.heap.size w w'
theorem kh {w:World}{g n:Nat}{L:List Nat}(h:Blk w g 3 (va n fun y => .int .i64 (L.getD y 0:Nat))) (k:Nat) (hk:k≤n) (hn:n=L.length):IS w (some ⟨g,0,none⟩) (Y.ints (L.take k)):=by
 refine .inr ⟨g,0,rfl,fun j hj=>?_⟩;rw [Y.zj,List.length_take] at hj;rw [Nat.zero_add,h.cell,zw _ _ _ (by omega),Y.ints_at];simp only [List.getD_eq_getElem?_getD,List.getElem?_take_of_lt (show j<k by omega)]
set_option maxHeartbeats 1600000 in
theorem uS (few:Nat) (ns:List Nat) (ao:Option Addr) (c n:Nat) (w:World) (h:IS w ao (Y.ints ns)) (hn:n=ns.length) (hl:ns.length≤300) (hM:∀ x∈ns,x≤100000) (hf:few≤n) (h1:1≤few) :
  Calls prog 127 #[.slice ao n c,.int .i64 few] w (zmc w ((zT ns 15).take (trz few (zT ns 15) n))):=by
 have HB0:=J (KH ns 15 ao c n w h hn (by omega) (fun x hx=>by have:=hM x hx;omega) ⟨by omega,by omega⟩ (by have:=vq ns;omega));obtain ⟨L,hL⟩:=exq (zT ns 15);have HL:Hid (n=L.length):=J (by rw [hL,xH];exact hn);rw [←hL] at HB0 ⊢;have hn3:n≤300:=by omega
 clear hL h hn hl hM;go_enter func127,ntmps127;go_wp2_with fail
 refine HB0.out.mono ?_;rintro e w1 ⟨g,rfl,hB,hb,hg⟩;have B1:=J hb;have R1:=J hB;clear hB hb hg HB0;go_wp2_with fail
 go_loopw [7] (fun v7 wr=>∃ (k:Nat),k≤n∧few≤k∧v7=.int .i64 (k:Nat)∧trz few L k=trz few L n∧wr=w1) (fun v7 _=>(intOf v7).toNat)
 case atStart=>exact ⟨n,Nat.le_refl _,hf,rfl,rfl,rfl⟩
 case round=>
  obtain ⟨k,hk,hfk,rfl,ht,rfl⟩:=hrel;have HT:=J ht;clear ht;have hk':(k:Int)≤n:=by omega
  have hk2:(k:Int)≤((n-0:Nat):Int):=by omega
  by_cases c1:few<k
  ·have c1':(few:Int)<k:=by omega
   obtain ⟨j,hj⟩:∃ j,k=j+1:=⟨k-1,by omega⟩;have e1:IntKind.i64.wrap ((k:Int)-1)=(j:Int):=by rw [IntKind.wrap_i64];omega
   have hjn:j<n:=by omega
   have hjn':(j:Int)<n:=by omega
   obtain ⟨x,hx⟩:=exq (L.getD j 0);have ca:wr.cell? ⟨g,j,none⟩=some (.int .i64 (x:Nat)):=by rw [R1.out.cell,zw _ _ _ hjn,hx]
   have HJ:=J hj;have HX:=J hx;by_cases h0:x=0
   ·have h0':((x:Int) == 0)=true:=by simp;omega
    have HS:Hid (trz few L j=trz few L n∧few≤j∧j≤n):=J ⟨by rw [←HT.out,hj,trz,if_pos ⟨by omega,by rw [←hx];exact h0⟩],by omega,by omega⟩;have hjk:j<k:=by omega
    clear hj hx h0;go_wp2;go_roundw;case rel=>exact ⟨j,HS.out.2.2,HS.out.2.1,rfl,HS.out.1,by first | rfl | trivial⟩
    case measure=>simp [intOf];omega
   ·have h0':((x:Int) == 0)=false:=by simp;omega
    have HS:Hid (trz few L n=k):=J (by rw [←HT.out,hj,trz,if_neg (by rw [←hx];omega)]);clear hj hx h0;go_wp2;go_ret;have hlen:(L.take (trz few L n)).length=k:=by rw [HS.out,List.length_take];have:=HL.out;omega
    refine ⟨g,n,?_,kh R1.out _ (by rw [HS.out];omega) HL.out,B1.out⟩;rw [hlen];rfl
  ·have c1':decide ((few:Int)<k)=false:=decide_eq_false (by omega)
   have c1z:(k:Int)≤few:=by omega
   have HS:Hid (trz few L n=k):=J (by
    rw [←HT.out];obtain ⟨j,rfl⟩:∃ j,k=j+1:=⟨k-1,by omega⟩;rw [trz,if_neg (by omega)])
   clear c1;go_wp2;go_ret;have hlen:(L.take (trz few L n)).length=k:=by rw [HS.out,List.length_take];have:=HL.out;omega
   refine ⟨g,n,?_,kh R1.out _ (by rw [HS.out];omega) HL.out,B1.out⟩;rw [hlen];rfl
end
end Go.Proofs.YtacpfpghokcdlaaGreatDoor
