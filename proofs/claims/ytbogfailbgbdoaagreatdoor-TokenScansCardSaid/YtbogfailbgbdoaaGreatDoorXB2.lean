/- Part 2. -/
import Derived.Laws.CopyOwn
import Derived.Laws.MakeOwn
import Derived.Lib.CountLaws
import Derived.Shelf.Bytes.SlCut
import Derived.Shelf.Bytes.SlIndexWhole
import Derived.Shelf.Bytes.SlSmallAll
import Derived.Shelf.Bytes.SlSplitNil
import Derived.Test.YtbogfailbgbdoaaGreatDoorXB1
set_option linter.unusedVariables false
set_option linter.unusedSimpArgs false
namespace Go.Proofs.YtbogfailbgbdoaaGreatDoor
set_option maxRecDepth 100000
section
open Go.RowKit U
def charP (v:Nat):Bool:=wth charL v
def goP (v:Nat):Bool:=goesP v
def begP (v:Nat):Bool:=wth beginsL v
def alF (p:Nat→Bool):Nat→List Nat→Nat→Option Nat
 | 0,_,_=>none
 | f+1,L,k=>if L=[] then none else if (nx L).2=0∨p (nx L).1=false then some k else alF p f (L.drop (nx L).2) (k+(nx L).2)
def al (p:Nat→Bool) (L:List Nat) (k:Nat):Option Nat:=alF p L.length L k
theorem alF_fuel (p:Nat→Bool):∀ (f g:Nat) (L:List Nat) (k:Nat),L.length≤f→L.length≤g→alF p f L k=alF p g L k
 | 0,0,_,_,_,_=>rfl
 | 0,g+1,L,k,h,_=>by
  have:L=[]:=List.eq_nil_of_length_eq_zero (by omega)
  subst this;rfl
 | f+1,0,L,k,_,h=>by
  have:L=[]:=List.eq_nil_of_length_eq_zero (by omega)
  subst this;rfl
 | f+1,g+1,L,k,h,h'=>by
  unfold alF
  by_cases c:L=[]
  ·rw [if_pos c,if_pos c]
  rw [if_neg c,if_neg c]
  by_cases d:(nx L).2=0∨p (nx L).1=false
  ·rw [if_pos d,if_pos d]
  rw [if_neg d,if_neg d]
  exact alF_fuel p f g _ _ (by rw [List.length_drop];omega) (by rw [List.length_drop];omega)
theorem al_nil (p:Nat→Bool) (k:Nat):al p [] k=none:=rfl
theorem al_step (p:Nat→Bool) {L:List Nat} (h:L≠[]) (k:Nat):al p L k=if (nx L).2=0∨p (nx L).1=false then some k else al p (L.drop (nx L).2) (k+(nx L).2):=by
 have hl:=List.length_pos_iff.2 h
 unfold al
 obtain ⟨m,hm⟩:∃ m,L.length=m+1:=⟨L.length-1,by omega⟩
 rw [hm,alF,if_neg h]
 by_cases d:(nx L).2=0∨p (nx L).1=false
 ·rw [if_pos d,if_pos d]
 rw [if_neg d,if_neg d]
 exact alF_fuel p m _ _ _ (by rw [List.length_drop];omega) (Nat.le_refl _)
def alR:Option Nat→Nat × Bool
 | none=>(0,true)
 | some k=>(k,false)
def alA (p:Nat→Bool) (xs:List Nat):Nat × Bool:=alR (al p xs 0)
set_option maxHeartbeats 3200000 in
theorem allAre_Char (ao:Option Addr) (c:Nat) (xs:List Nat) (w:World) (h:Sl w ao c xs) (hm:xs.length≤1000000000) (hT:TU w) :
  Calls Tryz.prog 39 #[.slice ao xs.length c,.func (.func 40) #[] #[]] w fun e w'=>e = .returned (.tuple #[.int .i64 ((alA charP xs).1:Nat),.bool (alA charP xs).2])∧Below w.heap.size w w':=by
 have HK:=Lib.hid fun (W:World) (hW:Below w.heap.size w W) (k:Nat)=>Next_any ao c xs k W (h.below hW) (hT.grow hW)
 have hb:=Lib.hid h.bs
 clear h hT
 obtain ⟨A,hA⟩:∃ A,A=al charP xs 0:=⟨_,rfl⟩
 have HR:Hid (alA charP xs=alR A):=Lib.hid (by rw [hA];rfl)
 obtain ⟨R,hR⟩:∃ R,R=alA charP xs:=⟨_,rfl⟩
 rw [←hR] at HR ⊢
 have HA:=Lib.hid hA
 clear hA hR
 go_enter Tryz.func39,Tryz.ntmps39
 go_wp2
 go_loopw [6] (fun vi wr=>∃ k:Nat,k≤xs.length∧vi = .int .i64 k∧Below w.heap.size w wr∧Hid (A=al charP (xs.drop k) k)) (fun vi _=>xs.length-(intOf vi).toNat)
 case atStart=>exact ⟨0,Nat.zero_le _,rfl,Below.refl _ _,Lib.hid (by rw [HA.out];rfl)⟩
 case round=>
  obtain ⟨k,hk,rfl,hbw,hrel⟩:=hrel
  have HB:=Lib.hid hbw
  clear hbw
  by_cases hlt:k<xs.length
  ·have hkk:(k:Int)<xs.length:=by omega
   have hne:xs.drop k≠[]:=by intro e;have:=congrArg List.length e;rw [List.length_drop,List.length_nil] at this;omega
   have hst:=Lib.hid (hrel.out.trans (al_step charP hne k))
   have hn4:=nx_le4 (xs.drop k) (hb.out.drop k)
   rw [List.length_drop] at hn4
   have K:=HK.out wr HB.out k
   rw [nxF_nat] at K
   obtain ⟨v,n,hvn⟩:∃ v n,nx (xs.drop k)=(v,n):=⟨_,_,rfl⟩
   rw [hvn] at hn4 hst K
   simp only at hn4 hst K
   have K:=Lib.hid K
   have HN4:=Lib.hid hn4
   clear hne hvn hrel hn4
   by_cases c1:n=0
   ·subst c1
    have HR2:Hid (R=(k,false)):=Lib.hid (by rw [HR.out,hst.out,if_pos (.inl rfl)];rfl)
    go_wp2_with (go_at_call 65;(with_reducible refine K.out.mono ?_);rintro e w1 ⟨rfl,hb1⟩;have HB1:=Lib.hid (HB.out.trans (hb1.mono HB.out.size));clear hb1)
    go_ret2
    exact ⟨by rw [HR2.out];rfl,HB1.out⟩
   ·have c1':¬(n:Int)=0:=by omega
    obtain ⟨z,hz⟩:∃ z,z=charP v:=⟨_,rfl⟩
    have HG:=Lib.hid fun W=>Char_any (v:Int) W
    rw [show wth charL (v:Int)=z from hz.symm] at HG
    rw [←hz] at hst
    clear hz
    cases z with
    | false=>
     have HR2:Hid (R=(k,false)):=Lib.hid (by rw [HR.out,hst.out,if_pos (.inr rfl)];rfl)
     clear c1
     go_wp2_with (first
      | (go_at_call 65;(with_reducible refine K.out.mono ?_);rintro e w1 ⟨rfl,hb1⟩;have HB1:=Lib.hid (HB.out.trans (hb1.mono HB.out.size));clear hb1)
      | (go_at_call 40;(with_reducible refine (HG.out w1).mono ?_);rintro e w2 ⟨rfl,hb2⟩;have HB2:=Lib.hid (HB1.out.trans (hb2.mono HB1.out.size));clear hb2))
     go_ret2
     exact ⟨by rw [HR2.out];rfl,HB2.out⟩
    | true=>
     have HR2:Hid (A=al charP (xs.drop (k+n)) (k+n)):=Lib.hid (by rw [hst.out,if_neg (by simp [c1]),List.drop_drop])
     have hpos:0<n:=by omega
     clear c1
     have hw:=HN4.out
     have hsum:IntKind.i64.wrap ((k:Int)+n)=((k+n:Nat):Int):=by rw [IntKind.wrap_i64];omega
     obtain ⟨s,hs⟩:∃ s,s=k+n:=⟨_,rfl⟩
     have hsm:s≤xs.length:=by omega
     have hsk:k<s:=by omega
     rw [←hs] at hsum HR2
     clear hs hw hpos
     go_wp2_with (first
      | (go_at_call 65;(with_reducible refine K.out.mono ?_);rintro e w1 ⟨rfl,hb1⟩;have HB1:=Lib.hid (HB.out.trans (hb1.mono HB.out.size));clear hb1)
      | (go_at_call 40;(with_reducible refine (HG.out w1).mono ?_);rintro e w2 ⟨rfl,hb2⟩;have HB2:=Lib.hid (HB1.out.trans (hb2.mono HB1.out.size));clear hb2))
     refine ⟨⟨s,hsm,rfl,HB2.out,HR2⟩,?_⟩
     simp [intOf];omega
  ·obtain rfl:k=xs.length:=by omega
   have HR2:Hid (R=(0,true)):=Lib.hid (by rw [HR.out,hrel.out,List.drop_length];rfl)
   go_wp2
   go_ret2
   exact ⟨by rw [HR2.out];rfl,HB.out⟩
set_option maxHeartbeats 3200000 in
theorem allAre_Goes (ao:Option Addr) (c:Nat) (xs:List Nat) (w:World) (h:Sl w ao c xs) (hm:xs.length≤1000000000) (hT:TU w) :
  Calls Tryz.prog 39 #[.slice ao xs.length c,.func (.func 124) #[] #[]] w fun e w'=>e = .returned (.tuple #[.int .i64 ((alA goP xs).1:Nat),.bool (alA goP xs).2])∧Below w.heap.size w w':=by
 have HK:=Lib.hid fun (W:World) (hW:Below w.heap.size w W) (k:Nat)=>Next_any ao c xs k W (h.below hW) (hT.grow hW)
 have hb:=Lib.hid h.bs
 clear h hT
 obtain ⟨A,hA⟩:∃ A,A=al goP xs 0:=⟨_,rfl⟩
 have HR:Hid (alA goP xs=alR A):=Lib.hid (by rw [hA];rfl)
 obtain ⟨R,hR⟩:∃ R,R=alA goP xs:=⟨_,rfl⟩
 rw [←hR] at HR ⊢
 have HA:=Lib.hid hA
 clear hA hR
 go_enter Tryz.func39,Tryz.ntmps39
 go_wp2
 go_loopw [6] (fun vi wr=>∃ k:Nat,k≤xs.length∧vi = .int .i64 k∧Below w.heap.size w wr∧Hid (A=al goP (xs.drop k) k)) (fun vi _=>xs.length-(intOf vi).toNat)
 case atStart=>exact ⟨0,Nat.zero_le _,rfl,Below.refl _ _,Lib.hid (by rw [HA.out];rfl)⟩
 case round=>
  obtain ⟨k,hk,rfl,hbw,hrel⟩:=hrel
  have HB:=Lib.hid hbw
  clear hbw
  by_cases hlt:k<xs.length
  ·have hkk:(k:Int)<xs.length:=by omega
   have hne:xs.drop k≠[]:=by intro e;have:=congrArg List.length e;rw [List.length_drop,List.length_nil] at this;omega
   have hst:=Lib.hid (hrel.out.trans (al_step goP hne k))
   have hn4:=nx_le4 (xs.drop k) (hb.out.drop k)
   rw [List.length_drop] at hn4
   have K:=HK.out wr HB.out k
   rw [nxF_nat] at K
   obtain ⟨v,n,hvn⟩:∃ v n,nx (xs.drop k)=(v,n):=⟨_,_,rfl⟩
   rw [hvn] at hn4 hst K
   simp only at hn4 hst K
   have K:=Lib.hid K
   have HN4:=Lib.hid hn4
   clear hne hvn hrel hn4
   by_cases c1:n=0
   ·subst c1
    have HR2:Hid (R=(k,false)):=Lib.hid (by rw [HR.out,hst.out,if_pos (.inl rfl)];rfl)
    go_wp2_with (go_at_call 65;(with_reducible refine K.out.mono ?_);rintro e w1 ⟨rfl,hb1⟩;have HB1:=Lib.hid (HB.out.trans (hb1.mono HB.out.size));clear hb1)
    go_ret2
    exact ⟨by rw [HR2.out];rfl,HB1.out⟩
   ·have c1':¬(n:Int)=0:=by omega
    obtain ⟨z,hz⟩:∃ z,z=goP v:=⟨_,rfl⟩
    have HG:=Lib.hid fun W=>Goes_any (v:Int) W
    rw [show goesP (v:Int)=z from hz.symm] at HG
    rw [←hz] at hst
    clear hz
    cases z with
    | false=>
     have HR2:Hid (R=(k,false)):=Lib.hid (by rw [HR.out,hst.out,if_pos (.inr rfl)];rfl)
     clear c1
     go_wp2_with (first
      | (go_at_call 65;(with_reducible refine K.out.mono ?_);rintro e w1 ⟨rfl,hb1⟩;have HB1:=Lib.hid (HB.out.trans (hb1.mono HB.out.size));clear hb1)
      | (go_at_call 124;(with_reducible refine (HG.out w1).mono ?_);rintro e w2 ⟨rfl,hb2⟩;have HB2:=Lib.hid (HB1.out.trans (hb2.mono HB1.out.size));clear hb2))
     go_ret2
     exact ⟨by rw [HR2.out];rfl,HB2.out⟩
    | true=>
     have HR2:Hid (A=al goP (xs.drop (k+n)) (k+n)):=Lib.hid (by rw [hst.out,if_neg (by simp [c1]),List.drop_drop])
     have hpos:0<n:=by omega
     clear c1
     have hw:=HN4.out
     have hsum:IntKind.i64.wrap ((k:Int)+n)=((k+n:Nat):Int):=by rw [IntKind.wrap_i64];omega
     obtain ⟨s,hs⟩:∃ s,s=k+n:=⟨_,rfl⟩
     have hsm:s≤xs.length:=by omega
     have hsk:k<s:=by omega
     rw [←hs] at hsum HR2
     clear hs hw hpos
     go_wp2_with (first
      | (go_at_call 65;(with_reducible refine K.out.mono ?_);rintro e w1 ⟨rfl,hb1⟩;have HB1:=Lib.hid (HB.out.trans (hb1.mono HB.out.size));clear hb1)
      | (go_at_call 124;(with_reducible refine (HG.out w1).mono ?_);rintro e w2 ⟨rfl,hb2⟩;have HB2:=Lib.hid (HB1.out.trans (hb2.mono HB1.out.size));clear hb2))
     refine ⟨⟨s,hsm,rfl,HB2.out,HR2⟩,?_⟩
     simp [intOf];omega
  ·obtain rfl:k=xs.length:=by omega
   have HR2:Hid (R=(0,true)):=Lib.hid (by rw [HR.out,hrel.out,List.drop_length];rfl)
   go_wp2
   go_ret2
   exact ⟨by rw [HR2.out];rfl,HB.out⟩
theorem Check_any (ao:Option Addr) (c:Nat) (xs:List Nat) (w:World) (h:Sl w ao c xs) (hm:xs.length≤1000000000) (hT:TU w) :
  Calls Tryz.prog 21 #[.slice ao xs.length c] w fun e w'=>e = .returned (.tuple #[.int .i64 ((alA charP xs).1:Nat),.bool (alA charP xs).2])∧Below w.heap.size w w':=by
 have K:=Lib.hid (allAre_Char ao c xs w h hm hT)
 clear h hT
 generalize alA charP xs=R at K
 obtain ⟨p,q⟩:=R
 go_enter Tryz.func21,Tryz.ntmps21
 go_wp2_with (go_at_call 39;(with_reducible refine K.out.mono ?_);rintro e w1 ⟨rfl,hb1⟩;have HB1:=Lib.hid hb1;clear hb1)
 go_ret2
 exact ⟨rfl,HB1.out⟩
end
section
open Go.RowKit
def Blk (w:World) (g:Nat) (t:TypeId) (cs:Array Value):Prop:=w.heap[g]? = some (.cells cs t (0,0))
theorem Blk.lt {w:World} {g:Nat} {t:TypeId} {cs:Array Value} (h:Blk w g t cs):g<w.heap.size:=by
 rcases Nat.lt_or_ge g w.heap.size with hlt | hge
 ·exact hlt
 ·rw [Blk,Array.getElem?_eq_none hge] at h;cases h
theorem Blk.cell {w:World} {g:Nat} {t:TypeId} {cs:Array Value} (h:Blk w g t cs) (i:Nat):w.cell? ⟨g,i,none⟩=cs[i]? := cell_of_row w g i cs t (0,0) h
theorem Blk.free {w:World} {g:Nat} {t:TypeId} {cs:Array Value} (h:Blk w g t cs) (i:Nat):w.frozen? ⟨g,i,none⟩=false:=by
 rw [Blk] at h
 simp [World.frozen?,h]
theorem Blk.made (w:World) (t:TypeId) (cs:Array Value):Blk (w.alloc (.cells cs t)) w.heap.size t cs:=by
 show (w.heap.push _)[w.heap.size]? = _
 simp
theorem Blk.touch {S:Nat→Prop} {w w':World} {g:Nat} {t:TypeId} {cs:Array Value} (h:Blk w g t cs) (ht:Touch S w w') (hs:¬S g):Blk w' g t cs:=
 (ht.block g h.lt hs).trans h
theorem Blk.below {w w':World} {g:Nat} {t:TypeId} {cs:Array Value} (h:Blk w g t cs) (hb:Below w.heap.size w w'):Blk w' g t cs:=(hb.block g h.lt).trans h
theorem Blk.low {w w':World} {B g:Nat} {t:TypeId} {cs:Array Value} (h:Blk w g t cs) (hb:Below B w w') (hg:g<B):Blk w' g t cs:=(hb.block g hg).trans h
theorem Blk.drewN {w:World} {g:Nat} {t:TypeId} {cs:Array Value} (h:Blk w g t cs) (q:Nat):Blk (w.drewN q) g t cs:=h
theorem Blk.setCell {w:World} {g:Nat} {t:TypeId} {cs:Array Value} (h:Blk w g t cs) (i:Nat) (u:Value):Blk (w.setCell ⟨g,i,none⟩ u) g t (cs.setIfInBounds i u):=by
 rw [Blk] at h ⊢
 simp [World.setCell,Array.getElem?_modify,h]
theorem Blk.other {w:World} {g g':Nat} {t:TypeId} {cs:Array Value} (h:Blk w g t cs) (i:Nat) (u:Value) (hne:g'≠g):Blk (w.setCell ⟨g',i,none⟩ u) g t cs:=
 h.touch ((Touch.refl (fun k=>k=g') w).setCell ⟨g',i,none⟩ u (.inl rfl)) fun e=>hne e.symm
theorem Blk.setRow {w:World} {g:Nat} {t:TypeId} {cs:Array Value} (h:Blk w g t cs) (u:Array Value):Blk (w.setRow g u) g t u:=setRow_heap w g cs u t (0,0) h
def va (n:Nat) (F:Nat→Value):Array Value:=((List.range n).map F).toArray
theorem va_size (n:Nat) (F:Nat→Value):(va n F).size=n:=by simp [va]
theorem va_at (n:Nat) (F:Nat→Value) (i:Nat) (h:i<n):(va n F)[i]? = some (F i):=by simp [va,h]
theorem va_congr {n:Nat} {F G:Nat→Value} (h:∀ i,i<n→F i=G i):va n F=va n G:=by
 unfold va
 congr 1
 apply List.map_congr_left
 intro i hi
 rw [h i (List.mem_range.1 hi)]
theorem va_set (n:Nat) (F:Nat→Value) (k:Nat) (u:Value):(va n F).setIfInBounds k u=va n fun i=>if i=k then u else F i:=by
 apply Array.ext
 ·simp [va]
 ·intro i h1 h2
  rw [Array.getElem_setIfInBounds (by simpa [va] using h2)]
  simp only [va,List.getElem_toArray,List.getElem_map,List.getElem_range]
  by_cases h:k=i
  ·subst h;simp
  ·have h':¬i=k:=fun e=>h e.symm
   simp [h,h']
theorem va_replicate (n:Nat) (u:Value):Array.replicate n u=va n fun _=>u:=by
 apply Array.ext
 ·simp [va]
 ·intro i h1 h2
  simp [va]
theorem va_made (z:Array Value) (n:Nat):madeCells z n=va n (fun i=>z[i%z.size]!):=by
 apply Array.ext
 ·simp [va,madeCells]
 ·intro i h1 h2
  simp [va,madeCells]
section
variable {P:Program} {ops:Array Oper} {rest:List Oper} {o:Oper} {a:Act} {w:World} {Q:Exit→Act→World→Prop}
theorem wpList_make_z (hgd:o.guard=none) (t:TypeId) (l c:Operand) (ho:o.op = .makeSlice t l c) (e:TypeId) (z:Value) (size bytes n:Nat) (hu:P.underlying t=some (.slice e))
  (hin:(P.info? e).map (fun i=>(i.zero,i.size,i.bytes))=some (some z,size,bytes)) (kl kc:IntKind) (L C:Int) (hl:a.eval l = .int kl L) (hc:a.eval c = .int kc C) (hL:L=n) (hC:C=n) (hb:bytes*n≤281474976710656) (h63:n≤9223372036854775807)
  (h:∀ W,Blk W w.heap.size e (va (n*size) (fun i=>z.cells[i%z.cells.size]!))→Touch (fun _=>False) w W→W.heap.size=w.heap.size+1→wpList P ops Q rest (a.put o.dst (.slice (some ⟨w.heap.size,0,none⟩) n n)) W):wpList P ops Q (o::rest) a w:=by
 subst hL hC
 obtain ⟨i,hi,hz0,hz1,hz2⟩:=info_parts hin
 have hr:=run_make (P:=P) w t e i z hu hi hz0 kl kc n n (by omega) (Int.le_refl _) (by rw [hz2];omega) (by omega)
 rw [Int.toNat_natCast,hz1,va_made] at hr
 refine wpList_plain hgd fun K hK=>?_
 unfold Oper.wp execOp
 simp only [ho,hl,hc,Sem.run_bind,Sem.run_pure,hr,Result.andThen_ok]
 exact hK _ _ (h _ (Blk.made w e _) ((Touch.refl _ w).alloc _) (by simp))
end
end
def lidx_ren:Go.Shelf.Ren:=⟨fun | 185=>93 | 187=>118 | 115=>89 | 253=>119 | 224=>107 | 254=>120 | 255=>136 | 291=>137 | n=>n,fun | 37=>22 | 3=>3 | 4=>4 | 0=>0 | 5=>5 | 46=>126 | 9=>9 | 146=>141 | 51=>132 | n=>n,fun | 1=>0 | n=>n⟩
theorem lidx:Go.Proofs.LaysM.n185 Tryz.prog lidx_ren:={
 mixed:=by kernel_rfl,
 f115:=Tryz.func89.trans (congrArg some (by kernel_rfl)),
 f185:=Tryz.func93.trans (congrArg some (by kernel_rfl)),
 f187:=Tryz.func118.trans (congrArg some (by kernel_rfl)),
 f224:=Tryz.func107.trans (congrArg some (by kernel_rfl)),
 f253:=Tryz.func119.trans (congrArg some (by kernel_rfl)),
 f254:=Tryz.func120.trans (congrArg some (by kernel_rfl)),
 f255:=Tryz.func136.trans (congrArg some (by kernel_rfl)),
 f291:=Tryz.func137.trans (congrArg some (by kernel_rfl)),
 t0:=Tryz.underlying0,
 a0:=Tryz.isAgg0,
 z0:=Tryz.sizeOf0,
 v0:=Tryz.zeroValue0,
 t3:=Tryz.underlying3,
 a3:=Tryz.isAgg3,
 z3:=Tryz.sizeOf3,
 v3:=Tryz.zeroValue3,
 t4:=Tryz.underlying4,
 a4:=Tryz.isAgg4,
 z4:=Tryz.sizeOf4,
 v4:=Tryz.zeroValue4,
 t5:=Tryz.underlying5,
 a5:=Tryz.isAgg5,
 z5:=Tryz.sizeOf5,
 v5:=Tryz.zeroValue5,
 t9:=Tryz.underlying9,
 a9:=Tryz.isAgg9,
 z9:=Tryz.sizeOf9,
 v9:=Tryz.zeroValue9,
 t37:=Tryz.underlying22,
 a37:=Tryz.isAgg22,
 z37:=Tryz.sizeOf22,
 v37:=Tryz.zeroValue22,
 t46:=Tryz.underlying126,
 a46:=Tryz.isAgg126,
 z46:=Tryz.sizeOf126,
 v46:=Tryz.zeroValue126,
 t51:=Tryz.underlying132,
 a51:=Tryz.isAgg132,
 z51:=Tryz.sizeOf132,
 v51:=Tryz.zeroValue132,
 t146:=Tryz.underlying141,
 a146:=Tryz.isAgg141,
 z146:=Tryz.sizeOf141,
 v146:=Tryz.zeroValue141,
 g1:=by kernel_rfl,
 i0:=by kernel_rfl,
 i3:=by kernel_rfl,
 i4:=by kernel_rfl,
 i5:=by kernel_rfl,
 i9:=by kernel_rfl,
 i37:=by kernel_rfl,
 i46:=by kernel_rfl,
 i51:=by kernel_rfl,
 i146:=by kernel_rfl,
 m1:=by kernel_rfl,
 s1_3:=fun w h=>Go.Proofs.cell_of_shapedOpen_int (zero := #[.int .i64 0]) (t:=3) h (of_decide_eq_true (by kernel_rfl)) (by kernel_rfl) rfl (by kernel_rfl) (by kernel_rfl) Tryz.underlying3 }
def lcnt_ren:Go.Shelf.Ren:=⟨fun | 13=>92 | 24=>116 | 25=>117 | 12=>93 | 31=>135 | 19=>118 | 20=>89 | 21=>119 | 22=>107 | 23=>120 | 29=>136 | 30=>137 | n=>n,fun | 22=>22 | 3=>3 | 4=>4 | 0=>0 | 5=>5 | 9=>9 | 33=>126 | 40=>141 | 39=>132 | n=>n,fun | 0=>0 | n=>n⟩
theorem lcnt:Go.Proofs.SlLaysC.n13 Tryz.prog lcnt_ren:={
 mixed:=by kernel_rfl,
 f12:=Tryz.func93.trans (congrArg some (by kernel_rfl)),
 f13:=Tryz.func92.trans (congrArg some (by kernel_rfl)),
 f19:=Tryz.func118.trans (congrArg some (by kernel_rfl)),
 f20:=Tryz.func89.trans (congrArg some (by kernel_rfl)),
 f21:=Tryz.func119.trans (congrArg some (by kernel_rfl)),
 f22:=Tryz.func107.trans (congrArg some (by kernel_rfl)),
 f23:=Tryz.func120.trans (congrArg some (by kernel_rfl)),
 f25:=Tryz.func117.trans (congrArg some (by kernel_rfl)),
 f29:=Tryz.func136.trans (congrArg some (by kernel_rfl)),
 f30:=Tryz.func137.trans (congrArg some (by kernel_rfl)),
 t0:=Tryz.underlying0,
 a0:=Tryz.isAgg0,
 z0:=Tryz.sizeOf0,
 v0:=Tryz.zeroValue0,
 t3:=Tryz.underlying3,
 a3:=Tryz.isAgg3,
 z3:=Tryz.sizeOf3,
 v3:=Tryz.zeroValue3,
 t4:=Tryz.underlying4,
 a4:=Tryz.isAgg4,
 z4:=Tryz.sizeOf4,
 v4:=Tryz.zeroValue4,
 t5:=Tryz.underlying5,
 a5:=Tryz.isAgg5,
 z5:=Tryz.sizeOf5,
 v5:=Tryz.zeroValue5,
 t9:=Tryz.underlying9,
 a9:=Tryz.isAgg9,
 z9:=Tryz.sizeOf9,
 v9:=Tryz.zeroValue9,
 t22:=Tryz.underlying22,
 a22:=Tryz.isAgg22,
 z22:=Tryz.sizeOf22,
 v22:=Tryz.zeroValue22,
 t33:=Tryz.underlying126,
 a33:=Tryz.isAgg126,
 z33:=Tryz.sizeOf126,
 v33:=Tryz.zeroValue126,
 t39:=Tryz.underlying132,
 a39:=Tryz.isAgg132,
 z39:=Tryz.sizeOf132,
 v39:=Tryz.zeroValue132,
 t40:=Tryz.underlying141,
 a40:=Tryz.isAgg141,
 z40:=Tryz.sizeOf141,
 v40:=Tryz.zeroValue141,
 g0:=by kernel_rfl }
def ltrim_ren:Go.Shelf.Ren:=⟨fun | 139=>38 | 116=>64 | 115=>89 | n=>n,fun | 37=>22 | 4=>4 | 3=>3 | 9=>9 | 5=>5 | n=>n,fun | n=>n⟩
theorem ltrim:Go.Proofs.Lays.nb139 Tryz.prog ltrim_ren:={
 mixed:=by kernel_rfl,
 f115:=Tryz.func89.trans (congrArg some (by kernel_rfl)),
 f116:=Tryz.func64.trans (congrArg some (by kernel_rfl)),
 f139:=Tryz.func38.trans (congrArg some (by kernel_rfl)),
 t3:=Tryz.underlying3,
 a3:=Tryz.isAgg3,
 z3:=Tryz.sizeOf3,
 v3:=Tryz.zeroValue3,
 t4:=Tryz.underlying4,
 a4:=Tryz.isAgg4,
 z4:=Tryz.sizeOf4,
 v4:=Tryz.zeroValue4,
 t9:=Tryz.underlying9,
 a9:=Tryz.isAgg9,
 z9:=Tryz.sizeOf9,
 v9:=Tryz.zeroValue9,
 t37:=Tryz.underlying22,
 a37:=Tryz.isAgg22,
 z37:=Tryz.sizeOf22,
 v37:=Tryz.zeroValue22,
 t5:=Tryz.underlying5,
 a5:=Tryz.isAgg5,
 z5:=Tryz.sizeOf5,
 v5:=Tryz.zeroValue5 }
def lhas_ren:Go.Shelf.Ren:=⟨fun | 116=>64 | 115=>89 | n=>n,fun | 37=>22 | 4=>4 | 3=>3 | 9=>9 | 5=>5 | n=>n,fun | n=>n⟩
theorem lhas:Go.Proofs.Lays.nb116 Tryz.prog lhas_ren:={
 mixed:=by kernel_rfl,
 f115:=Tryz.func89.trans (congrArg some (by kernel_rfl)),
 f116:=Tryz.func64.trans (congrArg some (by kernel_rfl)),
 t3:=Tryz.underlying3,
 a3:=Tryz.isAgg3,
 z3:=Tryz.sizeOf3,
 v3:=Tryz.zeroValue3,
 t4:=Tryz.underlying4,
 a4:=Tryz.isAgg4,
 z4:=Tryz.sizeOf4,
 v4:=Tryz.zeroValue4,
 t9:=Tryz.underlying9,
 a9:=Tryz.isAgg9,
 z9:=Tryz.sizeOf9,
 v9:=Tryz.zeroValue9,
 t37:=Tryz.underlying22,
 a37:=Tryz.isAgg22,
 z37:=Tryz.sizeOf22,
 v37:=Tryz.zeroValue22,
 t5:=Tryz.underlying5,
 a5:=Tryz.isAgg5,
 z5:=Tryz.sizeOf5,
 v5:=Tryz.zeroValue5 }
def lcut_ren:Go.Shelf.Ren:=⟨fun | 4=>102 | 5=>93 | 6=>118 | 7=>89 | 8=>119 | 9=>107 | 10=>120 | 11=>136 | 12=>137 | n=>n,fun | 22=>22 | 4=>4 | 3=>3 | 0=>0 | 5=>5 | 29=>126 | 9=>9 | 31=>141 | 30=>132 | n=>n,fun | 0=>0 | n=>n⟩
theorem lcut:Go.Proofs.SlLaysT.n4 Tryz.prog lcut_ren:={
 mixed:=by kernel_rfl,
 f4:=Tryz.func102.trans (congrArg some (by kernel_rfl)),
 f5:=Tryz.func93.trans (congrArg some (by kernel_rfl)),
 f6:=Tryz.func118.trans (congrArg some (by kernel_rfl)),
 f7:=Tryz.func89.trans (congrArg some (by kernel_rfl)),
 f8:=Tryz.func119.trans (congrArg some (by kernel_rfl)),
 f9:=Tryz.func107.trans (congrArg some (by kernel_rfl)),
 f10:=Tryz.func120.trans (congrArg some (by kernel_rfl)),
 f11:=Tryz.func136.trans (congrArg some (by kernel_rfl)),
 f12:=Tryz.func137.trans (congrArg some (by kernel_rfl)),
 t0:=Tryz.underlying0,
 a0:=Tryz.isAgg0,
 z0:=Tryz.sizeOf0,
 v0:=Tryz.zeroValue0,
 t3:=Tryz.underlying3,
 a3:=Tryz.isAgg3,
 z3:=Tryz.sizeOf3,
 v3:=Tryz.zeroValue3,
 t4:=Tryz.underlying4,
 a4:=Tryz.isAgg4,
 z4:=Tryz.sizeOf4,
 v4:=Tryz.zeroValue4,
 t5:=Tryz.underlying5,
 a5:=Tryz.isAgg5,
 z5:=Tryz.sizeOf5,
 v5:=Tryz.zeroValue5,
 t9:=Tryz.underlying9,
 a9:=Tryz.isAgg9,
 z9:=Tryz.sizeOf9,
 v9:=Tryz.zeroValue9,
 t22:=Tryz.underlying22,
 a22:=Tryz.isAgg22,
 z22:=Tryz.sizeOf22,
 v22:=Tryz.zeroValue22,
 t29:=Tryz.underlying126,
 a29:=Tryz.isAgg126,
 z29:=Tryz.sizeOf126,
 v29:=Tryz.zeroValue126,
 t30:=Tryz.underlying132,
 a30:=Tryz.isAgg132,
 z30:=Tryz.sizeOf132,
 v30:=Tryz.zeroValue132,
 t31:=Tryz.underlying141,
 a31:=Tryz.isAgg141,
 z31:=Tryz.sizeOf141,
 v31:=Tryz.zeroValue141,
 g0:=by kernel_rfl }
def lcon_ren:Go.Shelf.Ren:=⟨fun | 186=>104 | 185=>93 | 187=>118 | 115=>89 | 253=>119 | 224=>107 | 254=>120 | 255=>136 | 291=>137 | n=>n,fun | 37=>22 | 4=>4 | 3=>3 | 0=>0 | 5=>5 | 46=>126 | 9=>9 | 146=>141 | 51=>132 | n=>n,fun | 1=>0 | n=>n⟩
theorem lcon:Go.Proofs.Lays.n186 Tryz.prog lcon_ren:={
 mixed:=by kernel_rfl,
 f115:=Tryz.func89.trans (congrArg some (by kernel_rfl)),
 f185:=Tryz.func93.trans (congrArg some (by kernel_rfl)),
 f186:=Tryz.func104.trans (congrArg some (by kernel_rfl)),
 f187:=Tryz.func118.trans (congrArg some (by kernel_rfl)),
 f224:=Tryz.func107.trans (congrArg some (by kernel_rfl)),
 f253:=Tryz.func119.trans (congrArg some (by kernel_rfl)),
 f254:=Tryz.func120.trans (congrArg some (by kernel_rfl)),
 f255:=Tryz.func136.trans (congrArg some (by kernel_rfl)),
 f291:=Tryz.func137.trans (congrArg some (by kernel_rfl)),
 t0:=Tryz.underlying0,
 a0:=Tryz.isAgg0,
 z0:=Tryz.sizeOf0,
 v0:=Tryz.zeroValue0,
 t3:=Tryz.underlying3,
 a3:=Tryz.isAgg3,
 z3:=Tryz.sizeOf3,
 v3:=Tryz.zeroValue3,
 t4:=Tryz.underlying4,
 a4:=Tryz.isAgg4,
 z4:=Tryz.sizeOf4,
 v4:=Tryz.zeroValue4,
 t5:=Tryz.underlying5,
 a5:=Tryz.isAgg5,
 z5:=Tryz.sizeOf5,
 v5:=Tryz.zeroValue5,
 t9:=Tryz.underlying9,
 a9:=Tryz.isAgg9,
 z9:=Tryz.sizeOf9,
 v9:=Tryz.zeroValue9,
 t37:=Tryz.underlying22,
 a37:=Tryz.isAgg22,
 z37:=Tryz.sizeOf22,
 v37:=Tryz.zeroValue22,
 t46:=Tryz.underlying126,
 a46:=Tryz.isAgg126,
 z46:=Tryz.sizeOf126,
 v46:=Tryz.zeroValue126,
 t51:=Tryz.underlying132,
 a51:=Tryz.isAgg132,
 z51:=Tryz.sizeOf132,
 v51:=Tryz.zeroValue132,
 t146:=Tryz.underlying141,
 a146:=Tryz.isAgg141,
 z146:=Tryz.sizeOf141,
 v146:=Tryz.zeroValue141,
 g1:=by kernel_rfl }
section
open Go.RowKit
def u8L (xs:List Nat):List UInt8:=xs.map UInt8.ofNat
def ints (xs:List Nat):List Int:=xs.map fun x:Nat=>(x:Int)
theorem bytesOf_ints (xs:List Nat):Lib.bytesOf (ints xs)=u8L xs:=by simp [Lib.bytesOf,ints,u8L]
theorem u8L_len (xs:List Nat):(u8L xs).length=xs.length:=by simp [u8L]
theorem u8L_drop (xs:List Nat) (k:Nat):u8L (xs.drop k)=(u8L xs).drop k:=by simp [u8L]
theorem ints_len (xs:List Nat):(ints xs).length=xs.length:=by simp [ints]
theorem ints_bd {xs:List Nat} (hb:Bs xs):∀ x∈ints xs,0≤x∧x<256:=by
 intro x hx
 obtain ⟨y,hy,rfl⟩:=List.mem_map.1 hx
 have:=hb y hy
 omega
theorem ints_at (xs:List Nat) (j:Nat):(ints xs).getD j 0=((xs.getD j 0:Nat):Int):=by
 simp only [ints,List.getD,List.getElem?_map]
 cases xs[j]? <;> simp
theorem Sl.addr {w:World} {ad:Addr} {c:Nat} {xs:List Nat} (h:Sl w (some ad) c xs):∀ i,i<xs.length→w.cell? (ad.add i)=some (.int .u8 ((ints xs).getD i 0)):=fun i hi=>by
 rcases h.src with h0 | ⟨b,o,e,hc⟩
 ·rw [h0] at hi;simp at hi
 ·obtain rfl:=Option.some.inj e
  rw [Addr.add_lit,ints_at]
  exact hc i hi
theorem count_any (ao ao2:Option Addr) (c c2:Nat) (xs ys:List Nat) (w:World) (h:Sl w ao c xs) (h2:Sl w ao2 c2 ys) (hm:xs.length≤1000000000) (hy:1≤ys.length) (hy2:ys.length≤1000) (hT:TU w) :
  Calls Tryz.prog 92 #[.slice ao xs.length c,.slice ao2 ys.length c2] w fun e w'=>e = .returned (.int .i64 (Lib.count (u8L xs) (u8L ys)))∧Drew w w':=by
 obtain ⟨m,hmm⟩:=hT.len
 cases ao2 with
 | none=>have:=h2.nil rfl;have:=h2.le;omega
 | some ad2=>
 cases ao with
 | none=>
  have h0:=h.nil rfl
  have h1:=h.le
  have hx:xs=[]:=List.eq_nil_of_length_eq_zero (by omega)
  subst hx
  subst h0
  have e0:Lib.count (u8L []) (u8L ys)=0:=by
   refine Lib.count_miss (Lib.index_long (by simp [u8L]) fun e=>?_)
   have e1:=congrArg List.length e
   rw [u8L_len,u8L_len,List.length_nil] at e1
   omega
  have K:=Any.bytes_Count_nil_any lcnt (some ad2) ys.length c2 w hy (by omega) (fun h1=>by
   obtain ⟨b,o,spot⟩:=ad2
   have:=h2.addr 0 (by omega)
   have hspot:spot=none:=by simpa [Addr.add] using World.cell?_spot this
   subst hspot
   rw [Addr.add_lit] at this
   exact ⟨b,o,_,rfl,this⟩)
  rw [e0]
  exact K.mono fun e w' ⟨he,hw⟩=>⟨he,⟨0,hw⟩⟩
 | some ad=>
  have K:=Any.bytes_Count_any lcnt ad ad2 xs.length c ys.length c2 (ints xs) (ints ys) m w (ints_len _) (ints_len _) (ints_bd h.bs) (ints_bd h2.bs) h.addr h2.addr h.le (by omega) (by omega) hy hmm
  rw [bytesOf_ints,bytesOf_ints] at K
  exact K
theorem index_any (ad:Addr) (ao2:Option Addr) (c c2:Nat) (xs ys:List Nat) (w:World) (h:Sl w (some ad) c xs) (h2:Sl w ao2 c2 ys) (hm:xs.length≤1000000000) (hy:1≤ys.length) (hy2:ys.length≤1000) (hT:TU w) :
  Calls Tryz.prog 93 #[.slice (some ad) xs.length c,.slice ao2 ys.length c2] w fun e w'=>e = .returned (.int .i64 (Lib.index (u8L xs) (u8L ys)))∧Drew w w':=by
 obtain ⟨m,hmm⟩:=hT.len
 cases ao2 with
 | none=>have:=h2.nil rfl;have:=h2.le;omega
 | some ad2=>
  have K:=Any.bytes_Index_at { lidx with } ad ad2 xs.length c ys.length c2 (ints xs) (ints ys) m w (ints_len _) (ints_len _) (ints_bd h.bs) (ints_bd h2.bs) h.addr h2.addr h.le (by omega) (by omega) hmm
  rw [bytesOf_ints,bytesOf_ints] at K
  exact K
end
end Go.Proofs.YtbogfailbgbdoaaGreatDoor
namespace Go.Proofs.YtbogfailbgbdoaaGreatDoor.K
set_option maxRecDepth 100000
section
open Go.RowKit Go.Proofs.YtbogfailbgbdoaaGreatDoor U
def ix (s:List Nat):List Nat→Option Nat
 | []=>if s=[] then some 0 else none
 | c::t=>if s <+: c::t then some 0 else (ix s t).map (· + 1)
def ixI:Option Nat→Int
 | none => -1
 | some k=>(k:Int)
theorem ofNat_inj {a b:Nat} (ha:a<256) (hb:b<256) (h:UInt8.ofNat a=UInt8.ofNat b):a=b:=by
 have:=congrArg UInt8.toNat h
 simp at this
 omega
theorem u8L_pre {s L:List Nat} (hs:Bs s) (hL:Bs L):(u8L s).isPrefixOf (u8L L)=decide (s <+: L):=by
 induction s generalizing L with
 | nil=>simp [u8L]
 | cons a t ih=>
  cases L with
  | nil=>simp [u8L]
  | cons b r=>
   have ih:=ih (L:=r) (fun x hx=>hs x (by simp [hx])) (fun x hx=>hL x (by simp [hx]))
   show (UInt8.ofNat a == UInt8.ofNat b && (u8L t).isPrefixOf (u8L r))=_
   rw [ih]
   by_cases h:a=b
   ·subst h;simp
   ·have:(UInt8.ofNat a == UInt8.ofNat b)=false:=by
     rw [beq_eq_false_iff_ne]
     exact fun e=>h (ofNat_inj (hs a (by simp)) (hL b (by simp)) e)
    simp [this,h,List.cons_prefix_cons]
theorem ix_lib {s L:List Nat} (hs:Bs s) (hL:Bs L):Lib.index (u8L L) (u8L s)=ixI (ix s L):=by
 induction L with
 | nil=>
  unfold ix Lib.index
  cases s <;> simp [u8L,ixI]
 | cons c t ih=>
  have ih:=ih (fun x hx=>hL x (by simp [hx]))
  show (if (u8L s).isPrefixOf (u8L (c::t)) then (0:Int) else if Lib.index (u8L t) (u8L s) == -1 then -1 else Lib.index (u8L t) (u8L s)+1)=_
  rw [u8L_pre hs hL,ix,ih]
  by_cases h:s <+: c::t
  ·simp [h,ixI]
  ·simp only [h,decide_false,if_false]
   cases ix s t with
   | none=>rfl
   | some k=>
    have:((k:Int) == -1)=false:=by rw [beq_eq_false_iff_ne];omega
    simp [ixI,this]
theorem ix_some {s:List Nat}:∀ {L:List Nat} {k:Nat},ix s L=some k→k+s.length≤L.length∧s <+: L.drop k
 | [],k,h=>by
  unfold ix at h
  split at h
  ·rename_i h0;subst h0;cases h;simp
  ·cases h
 | c::t,k,h=>by
  unfold ix at h
  split at h
  ·rename_i h0
   cases h
   exact ⟨by have:=h0.length_le;omega,by simpa using h0⟩
  ·rcases hx:ix s t with _ | j
   ·rw [hx] at h;cases h
   ·rw [hx] at h
    simp at h
    subst h
    obtain ⟨h1,h2⟩:=ix_some hx
    exact ⟨by simp;omega,by simpa using h2⟩
theorem ix_le {s L:List Nat} {k:Nat} (h:ix s L=some k):k+s.length≤L.length:=(ix_some h).1
theorem ix_least {s:List Nat}:∀ {L:List Nat} {k:Nat},ix s L=some k→∀ j,j<k→¬s <+: L.drop j
 | [],k,h,j,hj=>by
  unfold ix at h
  split at h
  ·cases h;omega
  ·cases h
 | c::t,k,h,j,hj=>by
  unfold ix at h
  split at h
  ·cases h;omega
  ·rename_i h0
   rcases hx:ix s t with _ | i
   ·rw [hx] at h;cases h
   ·rw [hx] at h
    simp at h
    cases j with
    | zero=>simpa using h0
    | succ j=>simpa using ix_least hx j (by omega)
theorem ix_is {s:List Nat}:∀ {L:List Nat} {k:Nat},s≠[]→s <+: L.drop k→(∀ j,j<k→¬s <+: L.drop j)→ix s L=some k
 | [],k,hs,h,_=>by simp at h;exact absurd h hs
 | c::t,0,hs,h,_=>by unfold ix;rw [if_pos (by simpa using h)]
 | c::t,k+1,hs,h,hn=>by
  unfold ix
  rw [if_neg (by simpa using hn 0 (by omega)),ix_is (L:=t) (k:=k) hs (by simpa using h) (fun j hj=>by simpa using hn (j+1) (by omega))]
  rfl
theorem ix_none {s:List Nat} (hs:s≠[]):∀ {L:List Nat},ix s L=none↔∀ j,¬s <+: L.drop j
 | []=>by
  unfold ix
  rw [if_neg hs]
  simp [hs]
 | c::t=>by
  unfold ix
  by_cases h0:s <+: c::t
  ·rw [if_pos h0]
   constructor
   ·intro h;cases h
   ·intro h;exact absurd (by simpa using h0) (h 0)
  ·rw [if_neg h0,Option.map_eq_none_iff,ix_none hs]
   constructor
   ·intro h j
    cases j with
    | zero=>simpa using h0
    | succ j=>simpa using h j
   ·intro h j
    simpa using h (j+1)
theorem ix1_cons (x c:Nat) (t:List Nat):ix [x] (c::t)=if x=c then some 0 else (ix [x] t).map (· + 1):=by
 rw [ix]
 by_cases h:x=c
 ·subst h;rw [if_pos rfl,if_pos];exact List.cons_prefix_cons.2 ⟨rfl,List.nil_prefix⟩
 ·rw [if_neg h,if_neg];intro h';exact h (List.cons_prefix_cons.1 h').1
theorem ix1_none {x:Nat}:∀ {L:List Nat},ix [x] L=none↔x∉L
 | []=>by simp [ix]
 | c::t=>by
  rw [ix1_cons]
  by_cases h:x=c
  ·simp [h]
  ·rw [if_neg h,Option.map_eq_none_iff,ix1_none];simp [h]
theorem ix1_some {x:Nat}:∀ {L:List Nat} {k:Nat},ix [x] L=some k→k<L.length∧x∉L.take k∧L.getD k 0=x
 | [],k,h=>by simp [ix] at h
 | c::t,k,h=>by
  rw [ix1_cons] at h
  by_cases hc:x=c
  ·rw [if_pos hc] at h;cases h;simp [hc]
  ·rw [if_neg hc] at h
   rcases hx:ix [x] t with _ | j
   ·rw [hx] at h;cases h
   ·rw [hx] at h
    simp at h
    subst h
    obtain ⟨h1,h2,h3⟩:=ix1_some hx
    exact ⟨by simp;omega,by simp [hc,h2],by simpa using h3⟩
theorem ix1_app {x:Nat}:∀ {a t:List Nat},x∉a→ix [x] (a++x::t)=some a.length
 | [],t,_=>by rw [List.nil_append,ix1_cons,if_pos rfl];rfl
 | c::a,t,h=>by
  rw [List.cons_append,ix1_cons,if_neg (by intro e;exact h (by simp [e])),ix1_app (by intro h';exact h (by simp [h']))]
  rfl
def digit (c:Nat):Nat:=if 48≤c∧c≤57 then c-48 else if 97≤c∧c≤102 then c-87 else if 65≤c∧c≤70 then c-55 else 99
def num (base:Nat):List Nat→Nat→Option Nat
 | [],v=>some v
 | c::t,v=>if base≤digit c then none else num base t (v*base+digit c)
def chr:Option Nat→Option Nat
 | none=>none
 | some v=>if charP v then some v else none
def numbered (ds:List Nat) (base:Nat):Option Nat:=
 if 7<(ds.dropWhile (· == 48)).length∨ds.dropWhile (· == 48)=[] then none else chr (num base (ds.dropWhile (· == 48)) 0)
def signOf (r:List Nat):Option Nat:=
 if r=[108,116] then some 60 else if r=[103,116] then some 62 else if r=[97,109,112] then some 38 else if r=[113,117,111,116] then some 34 else if r=[97,112,111,115] then some 39
 else if [35,120] <+: r then numbered (r.drop 2) 16 else if [35] <+: r then numbered (r.drop 1) 10 else none
def toldF:Nat→List Nat→Option (List Nat)
 | 0,_=>some []
 | _+1,[]=>some []
 | f+1,c::t=>if c=38 then (match ix [59] t with
   | none=>none
   | some j=>match signOf (t.take j) with
    | none=>none
    | some v=>(toldF f (t.drop (j+1))).map (enc v ++ ·)) else (toldF f t).map (c :: ·)
def told (L:List Nat):Option (List Nat):=toldF L.length L
theorem toldF_fuel:∀ (f g:Nat) (L:List Nat),L.length≤f→L.length≤g→toldF f L=toldF g L
 | 0,0,_,_,_=>rfl
 | 0,g+1,L,h,_=>by
  have:L=[]:=List.eq_nil_of_length_eq_zero (by omega)
  subst this;rfl
 | f+1,0,L,_,h=>by
  have:L=[]:=List.eq_nil_of_length_eq_zero (by omega)
  subst this;rfl
 | f+1,g+1,[],_,_=>rfl
 | f+1,g+1,c::t,h,h'=>by
  have hf:t.length≤f:=by simpa using h
  have hg:t.length≤g:=by simpa using h'
  unfold toldF
  by_cases hc:c=38
  ·rw [if_pos hc,if_pos hc]
   cases ix [59] t with
   | none=>rfl
   | some j=>
    simp only
    cases signOf (t.take j) with
    | none=>rfl
    | some v=>
     simp only
     rw [toldF_fuel f g _ (by rw [List.length_drop];omega) (by rw [List.length_drop];omega)]
  ·rw [if_neg hc,if_neg hc,toldF_fuel f g t hf hg]
theorem told_nil:told []=some []:=rfl
theorem told_amp (t:List Nat):told (38::t)=match ix [59] t with
  | none=>none
  | some j=>match signOf (t.take j) with
   | none=>none
   | some v=>(told (t.drop (j+1))).map (enc v ++ ·):=by
 show toldF (t.length+1) (38::t)=_
 rw [toldF,if_pos rfl]
 cases ix [59] t with
 | none=>rfl
 | some j=>
  simp only
  cases signOf (t.take j) with
  | none=>rfl
  | some v=>
   simp only
   rw [told,toldF_fuel t.length _ _ (by rw [List.length_drop];omega) (Nat.le_refl _)]
theorem told_ne {c:Nat} (h:c≠38) (t:List Nat):told (c::t)=(told t).map (c :: ·):=by
 show toldF (t.length+1) (c::t)=_
 rw [toldF,if_neg h]
 rfl
theorem told_app {a t:List Nat} (h:38∉a):told (a++t)=(told t).map (a ++ ·):=by
 induction a with
 | nil=>rw [List.nil_append];cases told t <;> simp
 | cons c r ih=>
  rw [List.cons_append,told_ne (by intro e;exact h (by simp [e])),ih (by intro e;exact h (by simp [e]))]
  cases told t <;> rfl
theorem told_cut (L:List Nat):told L=match ix [38] L with
  | none=>some L
  | some i=>(match ix [59] (L.drop (i+1)) with
   | none=>none
   | some j=>match signOf ((L.drop (i+1)).take j) with
    | none=>none
    | some v=>(told (L.drop (i+1+j+1))).map ((L.take i++enc v) ++ ·)):=by
 cases hi:ix [38] L with
 | none=>
  have h:=ix1_none.1 hi
  have:=told_app (t:=[]) h
  rw [List.append_nil,told_nil] at this
  rw [this];simp
 | some i=>
  obtain ⟨h1,h2,h3⟩:=ix1_some hi
  have e:L=L.take i++38::L.drop (i+1):=by
   have e0:L.getD i 0=L[i]:=by simp [List.getD,h1]
   rw [←h3,e0,←List.drop_eq_getElem_cons h1,List.take_append_drop]
  have h4:=told_app (t:=38::L.drop (i+1)) h2
  rw [←e,told_amp] at h4
  rw [h4]
  simp only
  cases ix [59] (L.drop (i+1)) with
  | none=>rfl
  | some j=>
   simp only
   cases signOf ((L.drop (i+1)).take j) with
   | none=>rfl
   | some v=>
    simp only
    rw [List.drop_drop,show i+1+(j+1)=i+1+j+1 by omega]
    cases told (L.drop (i+1+j+1)) with
    | none=>rfl
    | some x=>simp
def esc1 (q:Bool) (c:Nat):List Nat:=
 if c=38 then [38,97,109,112,59] else if c=60 then [38,108,116,59] else if c=62 then [38,103,116,59] else if c=13 then [38,35,49,51,59]
 else if q=true∧c=34 then [38,113,117,111,116,59] else if q=true∧c=9 then [38,35,57,59] else if q=true∧c=10 then [38,35,49,48,59] else [c]
def esc (q:Bool) (L:List Nat):List Nat:=L.flatMap (esc1 q)
theorem esc_nil (q:Bool):esc q []=[]:=rfl
theorem esc_cons (q:Bool) (c:Nat) (t:List Nat):esc q (c::t)=esc1 q c++esc q t:=by simp [esc]
theorem esc_app (q:Bool) (a b:List Nat):esc q (a++b)=esc q a++esc q b:=by simp [esc]
theorem told_esc1 (q:Bool) (c:Nat) (t:List Nat):told (esc1 q c++t)=(told t).map (c :: ·):=by
 have s1:signOf [97,109,112]=some 38:=by decide +kernel
 have s2:signOf [108,116]=some 60:=by decide +kernel
 have s3:signOf [103,116]=some 62:=by decide +kernel
 have s4:signOf [35,49,51]=some 13:=by decide +kernel
 have s5:signOf [113,117,111,116]=some 34:=by decide +kernel
 have s6:signOf [35,57]=some 9:=by decide +kernel
 have s7:signOf [35,49,48]=some 10:=by decide +kernel
 have key:∀ (r:List Nat) (v:Nat),59∉r→signOf r=some v→v<128→told (38::(r++59::t))=(told t).map (v :: ·):=by
  intro r v h1 h2 h3
  rw [told_amp,ix1_app h1]
  simp only [List.take_left',h2]
  rw [List.drop_append,List.drop_eq_nil_of_le (by omega)]
  simp [enc,h3]
 unfold esc1
 split
 ·subst_vars;exact key [97,109,112] 38 (by decide) s1 (by decide)
 split
 ·subst_vars;exact key [108,116] 60 (by decide) s2 (by decide)
 split
 ·subst_vars;exact key [103,116] 62 (by decide) s3 (by decide)
 split
 ·subst_vars;exact key [35,49,51] 13 (by decide) s4 (by decide)
 split
 ·rename_i h;rw [h.2];exact key [113,117,111,116] 34 (by decide) s5 (by decide)
 split
 ·rename_i h;rw [h.2];exact key [35,57] 9 (by decide) s6 (by decide)
 split
 ·rename_i h;rw [h.2];exact key [35,49,48] 10 (by decide) s7 (by decide)
 ·rename_i h _ _ _ _ _ _;exact told_ne h t
theorem told_esc (q:Bool) (L:List Nat):told (esc q L)=some L:=by
 induction L with
 | nil=>rfl
 | cons c t ih=>rw [esc_cons,told_esc1,ih];rfl
theorem esc_no (q:Bool) (L:List Nat):∀ x∈esc q L,x≠60∧x≠62∧x≠13∧(q=true→x≠34∧x≠9∧x≠10):=by
 intro x hx
 obtain ⟨c,_,hc⟩:=List.mem_flatMap.1 hx
 unfold esc1 at hc
 repeat' split at hc
 all_goals first
  | (simp at hc;rcases hc with rfl | rfl | rfl | rfl | rfl | rfl <;> simp;done)
  | (simp at hc;rcases hc with rfl | rfl | rfl | rfl | rfl <;> simp;done)
  | (simp at hc;rcases hc with rfl | rfl | rfl | rfl <;> simp;done)
  | (simp at hc;subst hc;simp_all)
theorem esc1_bs {q:Bool} {c:Nat} (h:c<256):Bs (esc1 q c):=by
 intro x hx
 unfold esc1 at hx
 repeat' split at hx
 all_goals (simp at hx;omega)
theorem esc_bs {q:Bool} {L:List Nat} (h:Bs L):Bs (esc q L):=fun x hx=>by
 obtain ⟨c,hc,hx⟩:=List.mem_flatMap.1 hx
 exact esc1_bs (h c hc) x hx
theorem esc1_len (q:Bool) (c:Nat):(esc1 q c).length≤6∧1≤(esc1 q c).length:=by
 unfold esc1
 repeat' split
 all_goals simp
theorem esc_len (q:Bool) (L:List Nat):(esc q L).length≤6*L.length:=by
 induction L with
 | nil=>simp [esc]
 | cons c t ih=>
  have:=(esc1_len q c).1
  rw [esc_cons,List.length_append,List.length_cons]
  omega
end
end Go.Proofs.YtbogfailbgbdoaaGreatDoor.K
namespace Go.Proofs.YtbogfailbgbdoaaGreatDoor
set_option maxRecDepth 100000
section
open Go.RowKit
def ix (s old:List Nat):Int:=Lib.index (u8L s) (u8L old)
def cn (s old:List Nat):Nat:=Lib.count (u8L s) (u8L old)
def rpl (old new:List Nat):Nat→List Nat→List Nat
 | 0,s=>s
 | k+1,s=>s.take (ix s old).toNat++(new++rpl old new k (s.drop ((ix s old).toNat+old.length)))
theorem u8L_ne {old:List Nat} (h:1≤old.length):u8L old≠[]:=fun e=>by
 have:=congrArg List.length e
 rw [u8L_len,List.length_nil] at this
 omega
theorem cn_hit {s old:List Nat} {k:Nat} (ho:1≤old.length) (h:cn s old=k+1):∃ i:Nat,ix s old=i∧i+old.length≤s.length∧cn (s.drop (i+old.length)) old=k:=by
 have hge:=Lib.index_ge (u8L s) (u8L old)
 have hne:Lib.index (u8L s) (u8L old) ≠ -1:=fun e=>by
  have:=Lib.count_miss e
  unfold cn at h
  omega
 obtain ⟨i,hi⟩:∃ i:Nat,Lib.index (u8L s) (u8L old)=i:=⟨(Lib.index (u8L s) (u8L old)).toNat,by omega⟩
 have hr:=Lib.index_room (u8L s) (u8L old) (by omega)
 have hc:=Lib.count_hit (u8L_ne ho) hi
 rw [hi,u8L_len,u8L_len] at hr
 refine ⟨i,hi,by omega,?_⟩
 unfold cn at h ⊢
 rw [u8L_drop]
 rw [u8L_len] at hc
 omega
theorem rpl_hit {old new s:List Nat} {k i:Nat} (h:ix s old=i):rpl old new (k+1) s=s.take i++(new++rpl old new k (s.drop (i+old.length))):=by
 rw [rpl,h];rfl
theorem rpl_len (old new:List Nat) (ho:1≤old.length):∀ (k:Nat) (s:List Nat),cn s old=k→(rpl old new k s).length+k*old.length=s.length+k*new.length
 | 0,s,_=>by simp [rpl]
 | k+1,s,h=>by
  obtain ⟨i,h1,h2,h3⟩:=cn_hit ho h
  have ih:=rpl_len old new ho k _ h3
  rw [rpl_hit h1]
  simp only [List.length_append,List.length_take,List.length_drop] at ih ⊢
  rw [Nat.min_eq_left (by omega),Nat.succ_mul,Nat.succ_mul]
  omega
theorem rpl_bs {old new:List Nat} (hn:Bs new):∀ (k:Nat) (s:List Nat),Bs s→Bs (rpl old new k s)
 | 0,_,h=>h
 | k+1,_,h=>(h.take _).app (hn.app (rpl_bs hn k _ (h.drop _)))
theorem cn_le {old:List Nat} (ho:1≤old.length):∀ (k:Nat) (s:List Nat),cn s old=k→k*old.length≤s.length:=by
 have key:∀ (k:Nat) (s:List Nat),cn s old=k→k*old.length≤s.length:=by
  intro k
  induction k with
  | zero=>intro s _;omega
  | succ k ih=>
   intro s h
   obtain ⟨i,h1,h2,h3⟩:=cn_hit ho h
   have:=ih _ h3
   rw [List.length_drop] at this
   rw [Nat.succ_mul]
   omega
 exact key
def rplA (old new s:List Nat):List Nat:=rpl old new (cn s old) s
theorem rplA_is {old new:List Nat} (ho:1≤old.length) (f:List Nat→List Nat) (h0:∀ s,Bs s→ix s old = -1→f s=s)
  (h1:∀ s (i:Nat),Bs s→ix s old=i→f s=s.take i++(new++f (s.drop (i+old.length)))):∀ s,Bs s→rplA old new s=f s:=by
 have key:∀ (k:Nat) (s:List Nat),Bs s→cn s old=k→rpl old new k s=f s:=by
  intro k
  induction k with
  | zero=>
   intro s hb h
   have hm:ix s old = -1:=by
    have hge:=Lib.index_ge (u8L s) (u8L old)
    apply Classical.byContradiction
    intro hne
    obtain ⟨i,hi⟩:∃ i:Nat,Lib.index (u8L s) (u8L old)=i:=⟨(Lib.index (u8L s) (u8L old)).toNat,by unfold ix at hne;omega⟩
    have:=Lib.count_hit (u8L_ne ho) hi
    unfold cn at h
    omega
   rw [rpl,h0 s hb hm]
  | succ k ih=>
   intro s hb h
   obtain ⟨i,e1,e2,e3⟩:=cn_hit ho h
   rw [rpl_hit e1,h1 s i hb e1,ih _ (hb.drop _) e3]
 exact fun s hb=>key _ s hb rfl
def r1:List Nat→List Nat
 | []=>[]
 | [x]=>[x]
 | x::y::t=>if x=13∧y=10 then 10::r1 t else x::r1 (y::t)
def r2 (L:List Nat):List Nat:=L.map fun x=>if x=13 then 10 else x
def lin:Bool→List Nat→List Nat
 | _,[]=>[]
 | p,x::t=>if x=10∧p=true then lin false t else (if x=13 then 10 else x)::lin (decide (x=13)) t
theorem lin_r:∀ L:List Nat,r2 (r1 L)=lin false L
 | []=>rfl
 | [x]=>by simp [r1,r2,lin]
 | x::y::t=>by
  unfold r1
  by_cases h:x=13∧y=10
  ·obtain ⟨rfl,rfl⟩:=h
   have:=lin_r t
   simp only [and_self,if_true]
   simp [lin,r2] at this ⊢
   exact this
  ·rw [if_neg h]
   have:=lin_r (y::t)
   rw [lin,if_neg (by simp)]
   show (if x=13 then 10 else x)::r2 (r1 (y::t))=_
   rw [this]
   congr 1
   by_cases hx:x=13
   ·have hy:y≠10:=fun e=>h ⟨hx,e⟩
    simp [lin,hx,hy]
   ·simp [hx]
theorem of_eq {x k:Nat} (hx:x<256) (hk:k<256):(UInt8.ofNat k == UInt8.ofNat x)=decide (x=k):=by
 by_cases h:x=k
 ·subst h;simp
 ·have:UInt8.ofNat k≠UInt8.ofNat x:=fun e=>by
   have e1:=congrArg UInt8.toNat e
   simp at e1
   omega
  simp [h,this]
theorem ix_two {x:Nat} {t:List Nat} (hx:x<256) (hb:Bs t):ix (x::t) [13,10]=if x=13∧t.head? = some 10 then 0 else if ix t [13,10] = -1 then -1 else ix t [13,10]+1:=by
 have e:(u8L [13,10]).isPrefixOf (u8L (x::t))=decide (x=13∧t.head? = some 10):=by
  cases t with
  | nil=>simp [u8L,List.isPrefixOf]
  | cons y t=>
   show (UInt8.ofNat 13 == UInt8.ofNat x && (UInt8.ofNat 10 == UInt8.ofNat y && true))=_
   rw [of_eq hx (by decide),of_eq (hb y (by simp)) (by decide)]
   simp
 unfold ix
 show (if (u8L [13,10]).isPrefixOf (u8L (x::t)) then (0:Int) else if Lib.index (u8L t) (u8L [13,10]) == -1 then -1 else Lib.index (u8L t) (u8L [13,10])+1)=_
 rw [e]
 simp only [decide_eq_true_eq,beq_iff_eq]
theorem ix_one {x:Nat} {t:List Nat} (hx:x<256):ix (x::t) [13]=if x=13 then 0 else if ix t [13] = -1 then -1 else ix t [13]+1:=by
 have e:(u8L [13]).isPrefixOf (u8L (x::t))=decide (x=13):=by
  show (UInt8.ofNat 13 == UInt8.ofNat x && true)=_
  rw [of_eq hx (by decide),Bool.and_true]
 unfold ix
 show (if (u8L [13]).isPrefixOf (u8L (x::t)) then (0:Int) else if Lib.index (u8L t) (u8L [13]) == -1 then -1 else Lib.index (u8L t) (u8L [13])+1)=_
 rw [e]
 simp only [decide_eq_true_eq,beq_iff_eq]
theorem ix_ge (s old:List Nat) : -1≤ix s old:=Lib.index_ge _ _
theorem r1_cons {x:Nat} {t:List Nat} (h:¬(x=13∧t.head? = some 10)):r1 (x::t)=x::r1 t:=by
 cases t with
 | nil=>rfl
 | cons y t=>
  unfold r1
  rw [if_neg (by simpa using h)]
  cases t <;> rfl
theorem r1_none:∀ s,Bs s→ix s [13,10] = -1→r1 s=s
 | [],_,_=>rfl
 | x::t,hb,h=>by
  rw [ix_two (hb x (by simp)) (fun y hy=>hb y (by simp [hy]))] at h
  by_cases c:x=13∧t.head? = some 10
  ·rw [if_pos c] at h;omega
  ·rw [if_neg c] at h
   have hge:=ix_ge t [13,10]
   have h2:ix t [13,10] = -1:=by
    apply Classical.byContradiction
    intro hne
    rw [if_neg hne] at h
    omega
   rw [r1_cons c,r1_none t (fun y hy=>hb y (by simp [hy])) h2]
theorem r1_hit:∀ s (i:Nat),Bs s→ix s [13,10]=i→r1 s=s.take i++([10]++r1 (s.drop (i+2)))
 | [],i,_,h=>by
  have:ix [] [13,10] = -1:=by decide
  omega
 | x::t,i,hb,h=>by
  have hbt:Bs t:=fun y hy=>hb y (by simp [hy])
  rw [ix_two (hb x (by simp)) hbt] at h
  by_cases c:x=13∧t.head? = some 10
  ·rw [if_pos c] at h
   obtain rfl:i=0:=by omega
   obtain ⟨rfl,c⟩:=c
   cases t with
   | nil=>simp at c
   | cons y t=>
    simp at c
    subst c
    simp [r1]
  ·rw [if_neg c] at h
   have hge:=ix_ge t [13,10]
   by_cases c2:ix t [13,10] = -1
   ·rw [if_pos c2] at h;omega
   rw [if_neg c2] at h
   obtain ⟨j,rfl⟩:∃ j,i=j+1:=⟨i-1,by omega⟩
   rw [r1_cons c,r1_hit t j hbt (by omega),List.take_succ_cons,show j+1+2=j+2+1 by omega,List.drop_succ_cons]
   rfl
theorem r2_none:∀ s,Bs s→ix s [13] = -1→r2 s=s
 | [],_,_=>rfl
 | x::t,hb,h=>by
  rw [ix_one (hb x (by simp))] at h
  by_cases c:x=13
  ·rw [if_pos c] at h;omega
  ·rw [if_neg c] at h
   have hge:=ix_ge t [13]
   have h2:ix t [13] = -1:=by
    apply Classical.byContradiction
    intro hne
    rw [if_neg hne] at h
    omega
   have:=r2_none t (fun y hy=>hb y (by simp [hy])) h2
   simp only [r2,List.map_cons,if_neg c] at this ⊢
   rw [this]
theorem r2_hit:∀ s (i:Nat),Bs s→ix s [13]=i→r2 s=s.take i++([10]++r2 (s.drop (i+1)))
 | [],i,_,h=>by
  have:ix [] [13] = -1:=by decide
  omega
 | x::t,i,hb,h=>by
  have hbt:Bs t:=fun y hy=>hb y (by simp [hy])
  rw [ix_one (hb x (by simp))] at h
  by_cases c:x=13
  ·rw [if_pos c] at h
   obtain rfl:i=0:=by omega
   subst c
   simp [r2]
  ·rw [if_neg c] at h
   have hge:=ix_ge t [13]
   by_cases c2:ix t [13] = -1
   ·rw [if_pos c2] at h;omega
   rw [if_neg c2] at h
   obtain ⟨j,rfl⟩:∃ j,i=j+1:=⟨i-1,by omega⟩
   have:=r2_hit t j hbt (by omega)
   rw [List.take_succ_cons,List.drop_succ_cons,List.cons_append,←this]
   simp [r2,c]
theorem rplA_r1 {s:List Nat} (hb:Bs s):rplA [13,10] [10] s=r1 s:=rplA_is (by decide) r1 r1_none r1_hit s hb
theorem rplA_r2 {s:List Nat} (hb:Bs s):rplA [13] [10] s=r2 s:=rplA_is (by decide) r2 r2_none r2_hit s hb
theorem r1_bs:∀ {s:List Nat},Bs s→Bs (r1 s):=fun {s} hb=>by
 rw [←rplA_r1 hb];exact rpl_bs (fun x hx=>by simp at hx;omega) _ _ hb
theorem r1_len:∀ s,(r1 s).length≤s.length
 | []=>Nat.le_refl _
 | [x]=>Nat.le_refl _
 | x::y::t=>by
  unfold r1
  split
  ·have:=r1_len t;simp;omega
  ·have:=r1_len (y::t);simp at this ⊢;omega
theorem r2_len (s:List Nat):(r2 s).length=s.length:=by simp [r2]
end
section
open Go.RowKit U
def bts (s:ByteArray):List Nat:=s.data.toList.map (·.toNat)
theorem bts_len (s:ByteArray):(bts s).length=s.size:=by rw [bts,List.length_map];rfl
theorem bts_bs (s:ByteArray):Bs (bts s):=fun x hx=>by
 obtain ⟨y,_,rfl⟩:=List.mem_map.1 hx
 exact y.toNat_lt
theorem text_run (s:ByteArray) (hl:s.size≤1000000):∃ (NEW:World→World) (CAP:World→Nat),(∀ W,(convert 9 22 (.string s)).run Tryz.prog W = .ok (.slice (some ⟨W.heap.size,0,none⟩) s.size (CAP W)) (NEW W))∧(∀ W,Below W.heap.size W (NEW W))∧
  (∀ W,Sl (NEW W) (some ⟨W.heap.size,0,none⟩) (CAP W) (bts s)):=by
 have hX:∀ W:World,∃ x:World × Nat,(convert 9 22 (.string s)).run Tryz.prog W = .ok (.slice (some ⟨W.heap.size,0,none⟩) s.size x.2) x.1∧Below W.heap.size W x.1∧Sl x.1 (some ⟨W.heap.size,0,none⟩) x.2 (bts s):=by
  intro w
  have hrun:=run_bytes_of_string (P:=Tryz.prog) w 9 22 5 s Tryz.underlying9 Tryz.underlying22 Tryz.underlying5
  obtain ⟨cp,hcp⟩:∃ cp,cp=grownCap w s.size 0 5:=⟨_,rfl⟩
  have hge:s.size≤cp:=by rw [hcp];exact grownCap_ge w s.size 0 5
  have hgm:cp≤maxLen:=by rw [hcp];exact grownCap_le_maxLen w s.size 0 5 (by unfold maxLen;omega)
  rw [←hcp] at hrun
  obtain ⟨w1,hw1⟩:∃ w1,w1=w.drew.alloc (.cells (bytesRow s cp) 5 ((bytesRow s cp).size,(bytesRow s cp).size+1)):=⟨_,rfl⟩
  rw [←hw1] at hrun
  have hB:Below w.heap.size w w1:=by rw [hw1];exact ((Below.refl w.heap.size w).drew).alloc (Nat.le_refl _) _
  have hS:Sl w1 (some ⟨w.heap.size,0,none⟩) cp (bts s):=by
   have hnl:=bts_len s
   refine ⟨.inr ⟨w.heap.size,0,rfl,fun j hj=>?_⟩,by rw [hnl];exact hge,hgm,(fun h=>by cases h),bts_bs s⟩
   have hj':j<s.data.size:=by rw [hnl] at hj;exact hj
   have hc:w1.cell? ⟨w.heap.size,j,none⟩=(bytesRow s cp)[j]? := by rw [hw1];exact cell_of_row _ _ j _ 5 _ (heap_alloc_new w.drew _)
   rw [Nat.zero_add,hc,bytesRow_at s cp j hj']
   have e:(bts s).getD j 0=(s.data[j]).toNat:=by
    rw [bts,List.getD_eq_getElem?_getD,List.getElem?_map,Array.getElem?_toList,Array.getElem?_eq_getElem hj'];rfl
   rw [e]
  exact ⟨(w1,cp),hrun,hB,hS⟩
 exact ⟨fun W=>(Classical.choose (hX W)).1,fun W=>(Classical.choose (hX W)).2,fun W=>(Classical.choose_spec (hX W)).1,fun W=>(Classical.choose_spec (hX W)).2.1,fun W=>(Classical.choose_spec (hX W)).2.2⟩
theorem Sl.from_ {w:World} {ao:Option Addr} {c:Nat} {xs:List Nat} (h:Sl w ao c xs) (k:Nat) (hk:k≤xs.length):Sl w (cutA ao c k) (c-k) (xs.drop k):=by
 have:=h.cut' k (xs.length-k) (by omega)
 rwa [List.take_of_length_le (by rw [List.length_drop];omega)] at this
def nameP (xs:List Nat):Bool:=if (nx xs).2=0∨begP (nx xs).1=false then false else (alA goP (xs.drop (nx xs).2)).2
theorem below_drew {B:Nat} {a w:World} (h:Below B a w):Below B a w.drew:=⟨h.os,h.tape,h.output,h.size,h.block⟩
def OwnB (xs:List Nat) (w:World) (e:Ending) (w':World):Prop:=∃ ao c,e = .returned (.slice ao xs.length c)∧w'.ownsRow w.heap.size 5 1 (.slice ao xs.length c) xs.length (u8s xs)∧Below w.heap.size w w'
theorem cells_enc (v:Nat) (h:isSign v):Lib.runeCells (v:Int)=u8s (enc v):=by
 obtain ⟨h1,h2⟩:=h
 unfold Lib.runeCells u8s enc
 by_cases c1:v<128
 ·rw [Lib.encodeRuneZ_one (by omega) (by omega),if_pos c1];rfl
 rw [if_neg c1]
 by_cases c2:v<2048
 ·rw [Lib.encodeRuneZ_two (by omega) (by omega),if_pos c2];rfl
 rw [if_neg c2]
 by_cases c3:v<65536
 ·rw [Lib.encodeRuneZ_three (by omega),if_pos c3];rfl
 rw [if_neg c3,Lib.encodeRuneZ_four (by omega) (by omega)];rfl
def putL (xs:List Nat) (r:Int):List Nat:=if Lib.validRune r then xs++enc r.toNat else xs
theorem sign_of {r:Int} (h:Lib.validRune r=true):∃ v:Nat,r=(v:Int)∧isSign v:=by
 unfold Lib.validRune at h
 have:=of_decide_eq_true h
 exact ⟨r.toNat,by omega,by unfold isSign;omega⟩
end
end Go.Proofs.YtbogfailbgbdoaaGreatDoor
