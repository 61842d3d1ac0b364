/- Part 3. -/
import Derived.Laws.MakeOwn
import Derived.StillTailTactics
import Derived.Test.YthbbpooobaahiaaGreatDoorXB2
namespace Go.Proofs.YthbbpooobaahiaaGreatDoor
set_option maxRecDepth 100000
section
open Go.RowKit
theorem Touch.setRow {S:Nat→Prop} {a w:World} (h:Touch S a w) (g:Nat) (cs:Array Value) (hp:S g∨a.heap.size≤g):Touch S a (w.setRow g cs):=
 ⟨h.os,h.tape,h.output,Nat.le_trans h.size (by simp),fun k hk hs=>(setRow_other w g k cs (fun e=>by subst e;rcases hp with hp | hp;exact hs hp;omega)).trans (h.block k hk hs)⟩
theorem Touch.of_below {S:Nat→Prop} {a b:World} (h:Below a.heap.size a b):Touch S a b:=⟨h.os,h.tape,h.output,h.size,fun k hk _=>h.block k hk⟩
theorem below_drewN {B:Nat} {a w:World} (h:Below B a w) (q:Nat):Below B a (w.drewN q):=⟨h.os,h.tape,h.output,h.size,h.block⟩
theorem below_drew {B:Nat} {a w:World} (h:Below B a w):Below B a w.drew:=⟨h.os,h.tape,h.output,h.size,h.block⟩
def Blk (w:World) (g:Nat) (t:TypeId) (cs:Array Value):Prop:=w.heap[g]? = some (.cells cs t (0,0))
theorem Blk.lt {w:World} {g:Nat} {t:TypeId} {cs:Array Value} (h:Blk w g t cs):g<w.heap.size:=by
 rcases Nat.lt_or_ge g w.heap.size with hlt | hge
 ·exact hlt
 ·rw [Blk,Array.getElem?_eq_none hge] at h;cases h
theorem Blk.cell {w:World} {g:Nat} {t:TypeId} {cs:Array Value} (h:Blk w g t cs) (i:Nat):w.cell? ⟨g,i,none⟩=cs[i]? := cell_of_row w g i cs t (0,0) h
theorem Blk.free {w:World} {g:Nat} {t:TypeId} {cs:Array Value} (h:Blk w g t cs) (i:Nat):w.frozen? ⟨g,i,none⟩=false:=by
 rw [Blk] at h
 simp [World.frozen?,h]
theorem Blk.made (w:World) (t:TypeId) (cs:Array Value):Blk (w.alloc (.cells cs t)) w.heap.size t cs:=by
 show (w.heap.push _)[w.heap.size]? = _
 simp
theorem Blk.touch {S:Nat→Prop} {w w':World} {g:Nat} {t:TypeId} {cs:Array Value} (h:Blk w g t cs) (ht:Touch S w w') (hs:¬S g):Blk w' g t cs:=
 (ht.block g h.lt hs).trans h
theorem Blk.below {w w':World} {g:Nat} {t:TypeId} {cs:Array Value} (h:Blk w g t cs) (hb:Below w.heap.size w w'):Blk w' g t cs:=(hb.block g h.lt).trans h
theorem Blk.low {w w':World} {B g:Nat} {t:TypeId} {cs:Array Value} (h:Blk w g t cs) (hb:Below B w w') (hg:g<B):Blk w' g t cs:=(hb.block g hg).trans h
theorem Blk.drewN {w:World} {g:Nat} {t:TypeId} {cs:Array Value} (h:Blk w g t cs) (q:Nat):Blk (w.drewN q) g t cs:=h
theorem Blk.setCell {w:World} {g:Nat} {t:TypeId} {cs:Array Value} (h:Blk w g t cs) (i:Nat) (u:Value):Blk (w.setCell ⟨g,i,none⟩ u) g t (cs.setIfInBounds i u):=by
 rw [Blk] at h ⊢
 simp [World.setCell,Array.getElem?_modify,h]
theorem Blk.other {w:World} {g g':Nat} {t:TypeId} {cs:Array Value} (h:Blk w g t cs) (i:Nat) (u:Value) (hne:g'≠g):Blk (w.setCell ⟨g',i,none⟩ u) g t cs:=
 h.touch ((Touch.refl (fun k=>k=g') w).setCell ⟨g',i,none⟩ u (.inl rfl)) fun e=>hne e.symm
theorem Blk.setRow {w:World} {g:Nat} {t:TypeId} {cs:Array Value} (h:Blk w g t cs) (u:Array Value):Blk (w.setRow g u) g t u:=setRow_heap w g cs u t (0,0) h
def va (n:Nat) (F:Nat→Value):Array Value:=((List.range n).map F).toArray
theorem va_size (n:Nat) (F:Nat→Value):(va n F).size=n:=by simp [va]
theorem va_at (n:Nat) (F:Nat→Value) (i:Nat) (h:i<n):(va n F)[i]? = some (F i):=by simp [va,h]
theorem va_congr {n:Nat} {F G:Nat→Value} (h:∀ i,i<n→F i=G i):va n F=va n G:=by
 unfold va
 congr 1
 apply List.map_congr_left
 intro i hi
 rw [h i (List.mem_range.1 hi)]
theorem va_set (n:Nat) (F:Nat→Value) (k:Nat) (u:Value):(va n F).setIfInBounds k u=va n fun i=>if i=k then u else F i:=by
 apply Array.ext
 ·simp [va]
 ·intro i h1 h2
  rw [Array.getElem_setIfInBounds (by simpa [va] using h2)]
  simp only [va,List.getElem_toArray,List.getElem_map,List.getElem_range]
  by_cases h:k=i
  ·subst h;simp
  ·have h':¬i=k:=fun e=>h e.symm
   simp [h,h']
theorem va_replicate (n:Nat) (u:Value):Array.replicate n u=va n fun _=>u:=by
 apply Array.ext
 ·simp [va]
 ·intro i h1 h2
  simp [va]
theorem va_made (z:Array Value) (n:Nat):madeCells z n=va n (fun i=>z[i%z.size]!):=by
 apply Array.ext
 ·simp [va,madeCells]
 ·intro i h1 h2
  simp [va,madeCells]
abbrev ia (n:Nat) (f:Nat→Nat):Array Value:=va n fun i => .int .i64 (f i:Nat)
theorem ia_one (n:Nat) (f:Nat→Nat):(ia n f).all (·.oneCell')=true:=by
 rw [Array.all_eq_true_iff_forall_mem]
 intro v hv
 simp [ia,va] at hv
 obtain ⟨i,_,rfl⟩:=hv
 rfl
theorem ia_set (n:Nat) (f g:Nat→Nat) (k x:Nat) (h:∀ i,i<n→g i=if i=k then x else f i):(ia n f).setIfInBounds k (.int .i64 (x:Nat))=ia n g:=by
 rw [va_set]
 refine va_congr fun i hi=>?_
 rw [h i hi]
 split <;> rfl
section
variable {P:Program} {ops:Array Oper} {rest:List Oper} {o:Oper} {a:Act} {w:World} {Q:Exit→Act→World→Prop}
theorem wpList_alloc_z (hgd:o.guard=none) (t:TypeId) (ho:o.op = .alloc t) (z:Array Value) (hz:∀ W,(zeroValue t).run P W = .ok (.agg z) W)
  (h:∀ W,Blk W w.heap.size t z→Touch (fun _=>False) w W→W.heap.size=w.heap.size+1→wpList P ops Q rest (a.put o.dst (.pointer (some ⟨w.heap.size,0,none⟩))) W):wpList P ops Q (o::rest) a w:=by
 have hr:(Instr.alloc t true (.tuple #[])).run P w = .ok (.pointer (some ⟨w.heap.size,0,none⟩)) (w.alloc (.cells z t)):=by
  simp [Instr.alloc,hz,newVar,newRow,Value.cells,go_sem]
 refine wpList_plain hgd fun K hK=>?_
 unfold Oper.wp execOp
 simp only [ho,Sem.run_bind,Sem.run_pure,hr,Result.andThen_ok]
 exact hK _ _ (h _ (Blk.made w t z) ((Touch.refl _ w).alloc _) (by simp))
theorem wpList_box_row (hgd:o.guard=none) (t:TypeId) (x:Operand) (ho:o.op = .box t x) (z:Array Value) (hx:a.eval x = .agg z)
  (h:∀ W,Blk W w.heap.size t z→Touch (fun _=>False) w W→W.heap.size=w.heap.size+1→wpList P ops Q rest (a.put o.dst (.pointer (some ⟨w.heap.size,0,none⟩))) W):wpList P ops Q (o::rest) a w:=by
 have hr:(Instr.box t (.agg z)).run P w = .ok (.pointer (some ⟨w.heap.size,0,none⟩)) (w.alloc (.cells z t)):=by
  simp [Instr.box,newVar,newRow,Value.cells,go_sem]
 refine wpList_plain hgd fun K hK=>?_
 unfold Oper.wp execOp
 simp only [ho,hx,Sem.run_bind,Sem.run_pure,hr,Result.andThen_ok]
 exact hK _ _ (h _ (Blk.made w t z) ((Touch.refl _ w).alloc _) (by simp))
theorem wpList_load_row (hgd:o.guard=none) (t:TypeId) (x:Operand) (ho:o.op = .load t x) (g:Nat) (hx:a.eval x = .pointer (some ⟨g,0,none⟩)) (ty:TypeId) (cs:Array Value) (hb:Blk w g ty cs)
  (n:Nat) (e:TypeId) (hu:P.underlying t=some (.array n e)) (hi:(P.info? t).map (·.size)=some cs.size)
  (h:wpList P ops Q rest (a.put o.dst (.agg cs)) w):wpList P ops Q (o::rest) a w:=by
 have hr:(Instr.loadAt t (.pointer (some ⟨g,0,none⟩))).run P w = .ok (.agg cs) w:=by
  simp only [Instr.loadAt,Instr.sureAddr,Sem.run_bind,Sem.run_pure,Result.andThen]
  exact run_loadVar_row w g ty t cs (0,0) _ hb hu rfl hi
 refine wpList_plain hgd fun K hK=>?_
 unfold Oper.wp execOp
 simp only [ho,hx,Sem.run_bind,Sem.run_pure,hr,Result.andThen_ok]
 exact hK _ _ h
theorem wpList_store_row (hgd:o.guard=none) (t:TypeId) (x y:Operand) (ho:o.op = .store t x y) (hd:o.dst=none) (g:Nat) (hx:a.eval x = .pointer (some ⟨g,0,none⟩)) (cells:Array Value) (hy:a.eval y = .agg cells) (ty:TypeId) (old:Array Value) (hb:Blk w g ty old)
  (hi:(P.info? t).map (·.size)=some cells.size) (hsz:old.size=cells.size) (h1:cells.all (·.oneCell')=true)
  (h:∀ W,Blk W g ty cells→Touch (fun k=>k=g) w W→W.heap.size=w.heap.size→wpList P ops Q rest a W):wpList P ops Q (o::rest) a w:=by
 have hr:(Instr.storeAt t (.pointer (some ⟨g,0,none⟩)) (.agg cells)).run P w = .ok () (w.setRow g cells):=by
  simp only [Instr.storeAt,Instr.sureAddr,Sem.run_bind,Sem.run_pure,Result.andThen]
  exact run_storeVar_row w g ty t old cells hb hi hsz h1
 have h':=h _ (hb.setRow cells) ((Touch.refl _ w).setRow g cells (.inl rfl)) (by simp)
 refine wpList_plain hgd fun K hK=>?_
 unfold Oper.wp execOp
 simp only [ho,hx,hy,Sem.run_bind,Sem.run_pure,hr,Result.andThen_ok]
 refine hK _ _ ?_
 rw [hd]
 exact h'
theorem wpList_index_row (hgd:o.guard=none) (t:TypeId) (x y:Operand) (ho:o.op = .index t x y) (cs:Array Value) (hx:a.eval x = .agg cs) (k:IntKind) (i:Nat) (hy:a.eval y = .int k i) (n:Nat) (e:TypeId) (hu:P.underlying t=some (.array n e)) (hin:i<n)
  (hag:∀ W,(isAgg e).run P W = .ok false W) (hsz:∀ W,(sizeOf e).run P W = .ok 1 W) (u:Value) (hu':cs[i]? = some u)
  (h:wpList P ops Q rest (a.put o.dst u) w):wpList P ops Q (o::rest) a w:=by
 have hr:(Instr.index t (.agg cs) (.int k i)).run P w = .ok u w:=by
  simp [Instr.index,run_underlying hu,asIntOf,hin,hsz,part,hag,hu',go_sem]
 refine wpList_plain hgd fun K hK=>?_
 unfold Oper.wp execOp
 simp only [ho,hx,hy,Sem.run_bind,Sem.run_pure,hr,Result.andThen_ok]
 exact hK _ _ h
theorem wpList_build_z (hgd:o.guard=none) (t:TypeId) (parts:Array (Nat × Operand)) (ho:o.op = .build t parts) (hp:parts = #[]) (z:Value) (hz:∀ W,(Instr.build t #[]).run P W = .ok z W)
  (h:wpList P ops Q rest (a.put o.dst z) w):wpList P ops Q (o::rest) a w:=by
 subst hp
 refine wpList_plain hgd fun K hK=>?_
 unfold Oper.wp execOp
 simp [ho,hz,Result.andThen_ok]
 exact hK _ _ h
theorem wpList_make_z (hgd:o.guard=none) (t:TypeId) (l c:Operand) (ho:o.op = .makeSlice t l c) (e:TypeId) (z:Value) (size bytes n:Nat) (hu:P.underlying t=some (.slice e))
  (hin:(P.info? e).map (fun i=>(i.zero,i.size,i.bytes))=some (some z,size,bytes)) (kl kc:IntKind) (L C:Int) (hl:a.eval l = .int kl L) (hc:a.eval c = .int kc C) (hL:L=n) (hC:C=n) (hb:bytes*n≤281474976710656) (h63:n≤9223372036854775807)
  (h:∀ W,Blk W w.heap.size e (va (n*size) (fun i=>z.cells[i%z.cells.size]!))→Touch (fun _=>False) w W→W.heap.size=w.heap.size+1→wpList P ops Q rest (a.put o.dst (.slice (some ⟨w.heap.size,0,none⟩) n n)) W):wpList P ops Q (o::rest) a w:=by
 subst hL hC
 obtain ⟨i,hi,hz0,hz1,hz2⟩:=info_parts hin
 have hr:=run_make (P:=P) w t e i z hu hi hz0 kl kc n n (by omega) (Int.le_refl _) (by rw [hz2];omega) (by omega)
 rw [Int.toNat_natCast,hz1,va_made] at hr
 refine wpList_plain hgd fun K hK=>?_
 unfold Oper.wp execOp
 simp only [ho,hl,hc,Sem.run_bind,Sem.run_pure,hr,Result.andThen_ok]
 exact hK _ _ (h _ (Blk.made w e _) ((Touch.refl _ w).alloc _) (by simp))
end
theorem results_cell {fn:Func} {p:Tmp} {ty:TypeId} (h:fn.results = #[.cell p ty]) (tmps:Array Value) (P:Program) (w:World) (g:Nat) (hg:tmps.getD p undef = .pointer (some ⟨g,0,none⟩)) (t:TypeId) (cs:Array Value) (hb:Blk w g t cs)
  (n:Nat) (e:TypeId) (hu:P.underlying ty=some (.array n e)) (hi:(P.info? ty).map (·.size)=some cs.size) :
  (results fn tmps).run P w = .ok (.agg cs) w:=by
 have hg':tmps[p]?.getD undef = .pointer (some ⟨g,0,none⟩):=by rw [←hg,Array.getD_eq_getD_getElem?]
 simp [results,h,hg',asAddr,run_loadVar_row w g t ty cs (0,0) _ hb hu rfl hi]
theorem results_cell2 {fn:Func} {p q:Tmp} {ty:TypeId} (h:fn.results = #[.cell p ty,.tmp q]) (tmps:Array Value) (P:Program) (w:World) (g:Nat) (hg:tmps.getD p undef = .pointer (some ⟨g,0,none⟩)) (t:TypeId) (cs:Array Value) (hb:Blk w g t cs)
  (n:Nat) (e:TypeId) (hu:P.underlying ty=some (.array n e)) (hi:(P.info? ty).map (·.size)=some cs.size) (v:Value) (hv:tmps.getD q undef=v) :
  (results fn tmps).run P w = .ok (.tuple #[.agg cs,v]) w:=by
 have hg':tmps[p]?.getD undef = .pointer (some ⟨g,0,none⟩):=by rw [←hg,Array.getD_eq_getD_getElem?]
 have hv':tmps[q]?.getD undef=v:=by rw [←hv,Array.getD_eq_getD_getElem?]
 simp [results,h,hg',hv',asAddr,run_loadVar_row w g t ty cs (0,0) _ hb hu rfl hi]
def IS (w:World) (ao:Option Addr) (zs:List Int):Prop:=
 zs=[]∨∃ b off,ao=some ⟨b,off,none⟩∧∀ j,j<zs.length→w.cell? ⟨b,off+j,none⟩=some (.int .i64 (zs.getD j 0))
theorem IS.below {w w':World} {ao:Option Addr} {zs:List Int} (h:IS w ao zs) (hb:Below w.heap.size w w'):IS w' ao zs:=by
 rcases h with h | ⟨b,off,rfl,hc⟩
 ·exact .inl h
 ·exact .inr ⟨b,off,rfl,fun j hj=>by
   have:=hc j hj
   exact (hb.cell (World.block_lt_of_cell? w _ this)).trans this⟩
theorem IS.drewN {w:World} {ao:Option Addr} {zs:List Int} (h:IS w ao zs) (n:Nat):IS (w.drewN n) ao zs:=h.below (below_drewN (Below.refl _ _) n)
theorem IS.touch {S:Nat→Prop} {w w':World} {ao:Option Addr} {zs:List Int} (h:IS w ao zs) (ht:Touch S w w') (hs:∀ b off,ao=some ⟨b,off,none⟩→zs≠[]→¬S b):IS w' ao zs:=by
 rcases h with h | ⟨b,off,rfl,hc⟩
 ·exact .inl h
 ·by_cases hx:zs=[]
  ·exact .inl hx
  ·refine .inr ⟨b,off,rfl,fun j hj=>?_⟩
   have h1:=hc j hj
   rw [←h1]
   exact World.cell?_of_block (ht.block b (World.block_lt_of_cell? w _ h1) (hs b off rfl hx))
theorem IS.at {w:World} {ao:Option Addr} {zs:List Int} (h:IS w ao zs) {k:Nat} (hk:k<zs.length):∃ b off,ao=some ⟨b,off,none⟩∧w.cell? ⟨b,off+k,none⟩=some (.int .i64 (zs.getD k 0)):=by
 rcases h with h | ⟨b,off,rfl,hc⟩
 ·rw [h] at hk;simp at hk
 ·exact ⟨b,off,rfl,hc k hk⟩
def nat (zs:List Int):List Nat:=zs.map Int.toNat
theorem nat_len (zs:List Int):(nat zs).length=zs.length:=by simp [nat]
structure Vd (zs:List Int):Prop where
 len:zs.length≤320
 all:∀ z∈zs,0≤z∧z≤15
theorem getD_mem {zs:List Int} {k:Nat} (hk:k<zs.length):zs.getD k 0∈zs:=by
 rw [List.getD_eq_getElem?_getD,List.getElem?_eq_getElem hk]
 exact List.getElem_mem hk
theorem nat_ln (zs:List Int) (k:Nat):ln (nat zs) k=(zs.getD k 0).toNat:=by
 unfold ln nat
 rcases Nat.lt_or_ge k zs.length with h | h <;> simp [List.getD,h]
theorem Vd.ln {zs:List Int} (h:Vd zs) {k:Nat} (hk:k<zs.length):zs.getD k 0=(YthbbpooobaahiaaGreatDoor.ln (nat zs) k:Nat)∧YthbbpooobaahiaaGreatDoor.ln (nat zs) k≤15:=by
 have:=h.all _ (getD_mem hk)
 rw [nat_ln]
 omega
theorem z61:∀ W,(zeroValue 237).run Tryz.prog W = .ok (.agg (ia 16 fun _=>0)) W:=by
 intro W
 rw [show ia 16 (fun _=>0)=Array.replicate 16 (.int .i64 0) from (va_replicate 16 _).symm]
 kernel_rfl
theorem b61:∀ W,(Instr.build 237 #[]).run Tryz.prog W = .ok (.agg (ia 16 fun _=>0)) W:=by
 intro W
 rw [show ia 16 (fun _=>0)=Array.replicate 16 (.int .i64 0) from (va_replicate 16 _).symm]
 kernel_rfl
theorem i61 {F:Nat→Value}:(Tryz.prog.info? 237).map (·.size)=some (va 16 F).size:=by rw [va_size];kernel_rfl
theorem a3:∀ W,(isAgg 3).run Tryz.prog W = .ok false W:=fun _=>by kernel_rfl
theorem s3:∀ W,(sizeOf 3).run Tryz.prog W = .ok 1 W:=fun _=>by kernel_rfl
structure Two (w:World) (p q:Nat) (B C:Array Value) (wr:World):Prop where
 b:Blk wr p 237 B
 c:Blk wr q 237 C
 below:Below w.heap.size w wr
 lo:w.heap.size≤p∧p<q
theorem Two.setC {w wr:World} {p q:Nat} {B C:Array Value} (h:Two w p q B C wr) (i:Nat) (u:Value):Two w p q B (C.setIfInBounds i u) (wr.setCell ⟨q,i,none⟩ u):=by
 have:=h.lo
 exact ⟨h.b.other i u (by omega),h.c.setCell i u,h.below.setCell (by show w.heap.size≤q;omega) _,h.lo⟩
theorem Two.setB {w wr W:World} {p q:Nat} {B B' C:Array Value} (h:Two w p q B C wr) (hb:Blk W p 237 B') (ht:Touch (fun k=>k=p) wr W):Two w p q B' C W:=by
 have:=h.lo
 exact ⟨hb,h.c.touch ht (by omega),h.below.trans (ht.below h.below.size fun k hk=>by omega),h.lo⟩
def hist (zs:List Int) (k n:Nat):Nat:=(nat (zs.take k)).count n
theorem hist_le (zs:List Int) (k n:Nat):hist zs k n≤k:=by
 unfold hist
 refine Nat.le_trans List.count_le_length ?_
 rw [nat_len,List.length_take];omega
theorem hist_step {zs:List Int} {k x:Nat} (hk:k<zs.length) (hx:zs.getD k 0=(x:Int)) (i:Nat):hist zs (k+1) i=if i=x then hist zs k x+1 else hist zs k i:=by
 unfold hist
 rw [List.take_succ_eq_append_getElem hk,show zs[k]=(x:Int) by rw [←hx];simp [List.getD,hk],nat,List.map_append,List.count_append]
 show (nat (zs.take k)).count i+[x].count i=_
 by_cases h:i=x
 ·subst h;simp
 ·rw [if_neg h,List.count_singleton];simp [Ne.symm h]
theorem hist_all {zs:List Int} (f:Nat→Nat) (hf:∀ i,f i=if i=0 then 0 else hist zs zs.length i) (i:Nat):f i=cn (nat zs) i:=by
 rw [hf];unfold hist cn
 rw [List.take_length]
def CountNo (w:World) (e:Ending) (w':World):Prop:=e = .returned (.tuple #[.agg (ia 16 fun _=>0),.bool false])∧Below w.heap.size w w'
def CountYes (zs:List Int) (w:World) (e:Ending) (w':World):Prop:=e = .returned (.tuple #[.agg (ia 16 (cn (nat zs))),.bool true])∧Below w.heap.size w w'
def CountBoth (zs:List Int) (w:World) (e:Ending) (w':World):Prop:=(Vd zs→CountYes zs w e w')∧(¬Vd zs→CountNo w e w')
set_option maxHeartbeats 1600000 in
theorem count_any (ao:Option Addr) (c:Nat) (zs:List Int) (w:World) (h:IS w ao zs) (hl:zs.length≤320) :
  Calls Tryz.prog 180 #[.slice ao zs.length c] w (CountBoth zs w):=by
 have HI:=Lib.hid h
 clear h
 have hl':(zs.length:Int)≤320:=by omega
 go_enter Tryz.func180,Tryz.ntmps180
 go_upto_region 2 with (refine wpList_alloc_z rfl 237 rfl _ z61 ?_;intro W hb ht hs;have HS:=Lib.hid hs;clear hs)
 rename_i W1 hb1 ht1 HS1 K1 hK1 K0 hK0
 obtain ⟨p,hp⟩:∃ p,p=w.heap.size:=⟨_,rfl⟩
 obtain ⟨q,hq⟩:∃ q,q=W1.heap.size:=⟨_,rfl⟩
 have H3:Hid (Two w p q (ia 16 fun _=>0) (ia 16 fun _=>0) W):=by
  subst hp hq
  have h1:=HS1.out
  exact Lib.hid ⟨hb1.touch ht (fun h=>h),hb,(ht1.trans ht).below (Nat.le_refl _) (fun _ h=>h.elim),by omega,by omega⟩
 rw [←hp,←hq]
 clear hp hq hb1 ht1 HS1 hb ht HS
 go_wp2
 go_loopw [13] (fun i wr=>∃ k:Nat,k≤zs.length∧i = .int .i64 k∧(∀ j,j<k→0≤zs.getD j 0∧zs.getD j 0≤15)∧Two w p q (ia 16 fun _=>0) (ia 16 (hist zs k)) wr) (fun i _=>zs.length-(intOf i).toNat)
 case atStart=>exact ⟨0,Nat.zero_le _,rfl,fun j hj=>absurd hj (Nat.not_lt_zero j),H3.out⟩
 case round=>
  obtain ⟨k,hk,rfl,hgood,hrel⟩:=hrel
  have HR:=Lib.hid hrel
  have HG:=Lib.hid hgood
  clear hrel hgood H3
  by_cases hlt:k<zs.length
  ·have hkk:(k:Int)<zs.length:=by omega
   obtain ⟨b,off,rfl,hcell⟩:=(HI.out.below HR.out.below).at hlt
   obtain ⟨x,hx⟩:∃ x,x=zs.getD k 0:=⟨_,rfl⟩
   have HX:=Lib.hid hx
   rw [←hx] at hcell
   clear hx
   by_cases hbad:x<0∨15<x
   ·have hb':decide (x<0)=false→decide (15<x)=true:=by
     intro h;simp at h ⊢;omega
    have hno:Hid (¬Vd zs):=Lib.hid fun v=>by
     have:=v.all _ (getD_mem hlt)
     rw [←HX.out] at this
     omega
    rcases hbad with hbad | hbad
    ·go_wp2_with (first
      | (refine wpList_build_z rfl 237 _ rfl rfl _ b61 ?_)
      | (refine wpList_store_row rfl 237 (.tmp 2) (.tmp 23) rfl rfl p rfl _ rfl 237 _ HR.out.b i61 (by simp only [va_size]) (ia_one 16 _) ?_;intro W4 hb4 ht4 hs4;have HB:=Lib.hid (HR.out.setB hb4 ht4);clear hb4 ht4 hs4))
     exact bodyPost_ret (results_cell2 Tryz.results180 _ _ _ p rfl 237 _ HB.out.b 16 3 Tryz.underlying237 i61 _ rfl) rfl ⟨fun v=>absurd v hno.out,fun _=>⟨rfl,HB.out.below⟩⟩
    ·have hpos:0≤x:=by omega
     go_wp2_with (first
      | (refine wpList_build_z rfl 237 _ rfl rfl _ b61 ?_)
      | (refine wpList_store_row rfl 237 (.tmp 2) (.tmp 23) rfl rfl p rfl _ rfl 237 _ HR.out.b i61 (by simp only [va_size]) (ia_one 16 _) ?_;intro W4 hb4 ht4 hs4;have HB:=Lib.hid (HR.out.setB hb4 ht4);clear hb4 ht4 hs4))
     exact bodyPost_ret (results_cell2 Tryz.results180 _ _ _ p rfl 237 _ HB.out.b 16 3 Tryz.underlying237 i61 _ rfl) rfl ⟨fun v=>absurd v hno.out,fun _=>⟨rfl,HB.out.below⟩⟩
   ·obtain ⟨n,rfl⟩:∃ n:Nat,x=(n:Int):=⟨x.toNat,by omega⟩
    have hn:n≤15:=by omega
    have hn16:n<16:=by omega
    have hn0:((n:Int)<16):=by omega
    have h1:decide ((n:Int)<0)=false:=by simp
    have h2:decide (15<(n:Int))=false:=by simp;omega
    clear hbad
    have hy:=hist_le zs k n
    have hc2:=(HR.out.c.cell n).trans (va_at 16 _ n hn16)
    have hf2:=HR.out.c.free n
    have HSt:=Lib.hid fun i (_:i<16)=>hist_step hlt HX.out.symm i
    obtain ⟨y,hyy⟩:∃ y,y=hist zs k n:=⟨_,rfl⟩
    rw [←hyy] at hy hc2
    have HY:=Lib.hid hyy
    clear hyy
    go_wp2
    go_roundw
    case rel=>
     refine ⟨k+1,by omega,by go_num,fun j hj=>?_,?_⟩
     ·by_cases e:j=k
      ·subst e;rw [←HX.out];omega
      ·exact HG.out j (by omega)
     ·have:=HR.out.setC n (.int .i64 ((y+1:Nat):Int))
      rw [ia_set 16 _ (hist zs (k+1)) n (y+1) (by rw [HY.out];exact HSt.out)] at this
      simpa using this
    case measure=>simp [intOf];omega
  ·have hk':k=zs.length:=by omega
   subst hk'
   have hf0:=HR.out.c.free 0
   have hc0:=(HR.out.c.cell 0).trans (va_at 16 _ 0 (by omega))
   have HV:Hid (Vd zs):=Lib.hid ⟨hl,fun z hz=>by
    obtain ⟨j,hj,rfl⟩:=List.getElem_of_mem hz
    have:=HG.out j hj
    simpa [List.getD,hj] using this⟩
   have H4:Hid (Two w p q (ia 16 fun _=>0) (ia 16 (cn (nat zs))) (wr.setCell ⟨q,0,none⟩ (.int .i64 0))):=by
    have:=HR.out.setC 0 (.int .i64 ((0:Nat):Int))
    rw [ia_set 16 _ (cn (nat zs)) 0 0 (fun i _=>by rw [←hist_all (zs:=zs) _ (fun _=>rfl)])] at this
    exact Lib.hid this
   go_wp2_with (first
    | (refine wpList_load_row rfl 237 (.tmp 4) rfl q rfl 237 _ H4.out.c 16 3 Tryz.underlying237 i61 ?_)
    | (refine wpList_store_row rfl 237 (.tmp 2) (.tmp 31) rfl rfl p rfl _ rfl 237 _ H4.out.b i61 (by simp only [va_size]) (ia_one 16 _) ?_;intro W4 hb4 ht4 hs4;have HB:=Lib.hid (H4.out.setB hb4 ht4);clear hb4 ht4 hs4))
   exact bodyPost_ret (results_cell2 Tryz.results180 _ _ _ p rfl 237 _ HB.out.b 16 3 Tryz.underlying237 i61 _ rfl) rfl ⟨fun _=>⟨rfl,HB.out.below⟩,fun v=>absurd HV.out v⟩
theorem count_yes (ao:Option Addr) (c:Nat) (zs:List Int) (w:World) (h:IS w ao zs) (hv:Vd zs) :
  Calls Tryz.prog 180 #[.slice ao zs.length c] w (CountYes zs w):=
 (count_any ao c zs w h hv.len).mono fun _ _ k=>k.1 hv
theorem cn_le (ls:List Nat) (n:Nat):cn ls n≤ls.length:=by
 unfold cn
 split
 ·omega
 ·exact List.count_le_length
theorem sp_le (ls:List Nat) (hl:ls.length≤320) (n:Nat):sp ls n≤n*10485760:=by
 induction n with
 | zero=>simp [sp]
 | succ n ih=>
  rw [sp]
  have h1:=cn_le ls n
  have h2:2^(15-n)≤2^15:=Nat.pow_le_pow_right (by omega) (by omega)
  have h3:cn ls n*2^(15-n)≤320*2^15:=Nat.mul_le_mul (by omega) h2
  omega
theorem fp_le (ls:List Nat) (hl:ls.length≤320) (n:Nat):fp ls n≤n*320:=by
 induction n with
 | zero=>simp [fp]
 | succ n ih=>
  rw [fp]
  have h1:=cn_le ls n
  omega
theorem shr_pow (k:Nat) (hk:k<16):(32768:Int)/2^k=((2^(15-k):Nat):Int):=by
 have:∀ k,k<16→(32768:Int)/2^k=((2^(15-k):Nat):Int):=by decide
 exact this k hk
theorem sp_int (ls:List Nat) (hl:ls.length≤320) (k:Nat) (hk:k<16):wrap64 ((sp ls k:Int)+wrap64 ((cn ls k:Int)*(32768/2^k)))=(sp ls (k+1):Nat):=by
 have h1:=cn_le ls k
 have h2:=sp_le ls hl k
 rw [shr_pow k hk,←Int.natCast_mul,sp]
 have h3:2^(15-k)≤2^15:=Nat.pow_le_pow_right (by omega) (by omega)
 have h4:cn ls k*2^(15-k)≤320*2^15:=Nat.mul_le_mul (by omega) h3
 generalize cn ls k*2^(15-k)=z at *
 unfold wrap64
 omega
set_option maxHeartbeats 800000 in
theorem room_any (ls:List Nat) (hl:ls.length≤320) (w:World) :
  Calls Tryz.prog 181 #[.agg (ia 16 (cn ls))] w fun e w'=>e = .returned (.int .i64 (room ls:Nat))∧Below w.heap.size w w':=by
 go_enter Tryz.func181,Tryz.ntmps181
 go_upto_region 1 with (refine wpList_box_row rfl 237 (.tmp 0) rfl (ia 16 (cn ls)) rfl ?_;intro W hb ht hs;have HS:=Lib.hid hs;clear hs)
 have HB:=Lib.hid (ht.below (Nat.le_refl _) (fun _ h=>h.elim))
 clear ht HS
 go_wp2_with (refine wpList_load_row rfl 237 (.tmp 1) rfl w.heap.size rfl 237 _ hb 16 3 Tryz.underlying237 i61 ?_)
 go_loop [3,7] (fun sv i=>∃ k:Nat,k≤16∧i = .int .i64 k∧sv = .int .i64 (sp ls k:Nat)) (fun _ i=>16-(intOf i).toNat)
 case atStart=>exact ⟨0,by omega,rfl,rfl⟩
 case round=>
  obtain ⟨k,hk,rfl,rfl⟩:=hrel
  by_cases hlt:k<16
  ·have hkk:(k:Int)<16:=by omega
   go_wp2_with (refine wpList_index_row rfl 237 (.tmp 6) (.tmp 7) rfl (ia 16 (cn ls)) rfl .i64 k rfl 16 3 Tryz.underlying237 hlt a3 s3 _ (va_at 16 _ k hlt) ?_)
   go_round
   case rel=>exact ⟨k+1,by omega,by go_num,by rw [sp_int ls hl k hlt]⟩
   case measure=>simp [intOf];omega
  ·have hk':k=16:=by omega
   subst hk'
   go_wp2
   go_ret
   exact ⟨rfl,HB.out⟩
set_option maxHeartbeats 800000 in
theorem sum_any (ls:List Nat) (hl:ls.length≤320) (w:World) :
  Calls Tryz.prog 190 #[.agg (ia 16 (cn ls))] w fun e w'=>e = .returned (.int .i64 (many ls:Nat))∧Below w.heap.size w w':=by
 go_enter Tryz.func190,Tryz.ntmps190
 go_upto_region 1 with (refine wpList_box_row rfl 237 (.tmp 0) rfl (ia 16 (cn ls)) rfl ?_;intro W hb ht hs;have HS:=Lib.hid hs;clear hs)
 have HB:=Lib.hid (ht.below (Nat.le_refl _) (fun _ h=>h.elim))
 clear ht HS
 go_wp2_with (refine wpList_load_row rfl 237 (.tmp 1) rfl w.heap.size rfl 237 _ hb 16 3 Tryz.underlying237 i61 ?_)
 go_loop [3,7] (fun sv i=>∃ k:Nat,k≤16∧i = .int .i64 k∧sv = .int .i64 (fp ls k:Nat)) (fun _ i=>16-(intOf i).toNat)
 case atStart=>exact ⟨0,by omega,rfl,rfl⟩
 case round=>
  obtain ⟨k,hk,rfl,rfl⟩:=hrel
  by_cases hlt:k<16
  ·have hkk:(k:Int)<16:=by omega
   have h1:=cn_le ls k
   have h2:=fp_le ls hl k
   go_wp2_with (refine wpList_index_row rfl 237 (.tmp 6) (.tmp 7) rfl (ia 16 (cn ls)) rfl .i64 k rfl 16 3 Tryz.underlying237 hlt a3 s3 _ (va_at 16 _ k hlt) ?_)
   go_round
   case rel=>exact ⟨k+1,by omega,by go_num,by rw [fp];go_num⟩
   case measure=>simp [intOf];omega
  ·have hk':k=16:=by omega
   subst hk'
   go_wp2
   go_ret
   exact ⟨rfl,HB.out⟩
structure Three (w:World) (p q r:Nat) (A B C:Array Value) (wr:World):Prop where
 a:Blk wr p 237 A
 b:Blk wr q 237 B
 c:Blk wr r 237 C
 below:Below w.heap.size w wr
 lo:w.heap.size≤p∧p<q∧q<r
theorem Three.setC {w wr:World} {p q r:Nat} {A B C:Array Value} (h:Three w p q r A B C wr) (i:Nat) (u:Value):Three w p q r A B (C.setIfInBounds i u) (wr.setCell ⟨r,i,none⟩ u):=by
 have:=h.lo
 exact ⟨h.a.other i u (by omega),h.b.other i u (by omega),h.c.setCell i u,h.below.setCell (by show w.heap.size≤r;omega) _,h.lo⟩
theorem Three.setB {w wr W:World} {p q r:Nat} {A B B' C:Array Value} (h:Three w p q r A B C wr) (hb:Blk W q 237 B') (t:Touch (fun k=>k=q) wr W):Three w p q r A B' C W:=by
 have:=h.lo
 exact ⟨h.a.touch t (by omega),hb,h.c.touch t (by omega),h.below.trans (t.below h.below.size fun k hk=>by omega),h.lo⟩
theorem Three.drew {w wr:World} {p q r:Nat} {A B C:Array Value} (h:Three w p q r A B C wr):Three w p q r A B C wr.drew:=⟨h.a,h.b,h.c,below_drew h.below,h.lo⟩
def upf (f:Nat→Nat) (k i:Nat):Nat:=if i<k then f i else 0
theorem upf_all (f:Nat→Nat):ia 16 (upf f 16)=ia 16 f:=va_congr fun i hi=>by simp [upf,hi]
theorem upf_set (f:Nat→Nat) (k:Nat):(ia 16 (upf f k)).setIfInBounds k (.int .i64 (f k:Nat))=ia 16 (upf f (k+1)):=by
 refine ia_set 16 _ _ k (f k) fun i _=>?_
 unfold upf
 by_cases h:i=k
 ·subst h;simp
 ·rw [if_neg h]
  by_cases h1:i<k
  ·simp [h1,show i<k+1 by omega]
  ·simp [h1,show ¬i<k+1 by omega]
theorem upf_one (f:Nat→Nat) (h:f 0=0):upf f 1=fun _=>0:=by
 funext i
 unfold upf
 split
 ·rw [show i=0 by omega,h]
 ·rfl
theorem fc_le {ls:List Nat} (H:Ok ls) (n:Nat) (hn:n≤15):fc ls n≤32768:=by
 have h1:=fc_sp ls n hn
 have h2:sp ls n≤room ls:=sp_mono ls (by omega)
 have h3:=H.few
 have h4:fc ls n*1≤fc ls n*2^(15-n):=Nat.mul_le_mul_left _ (Nat.two_pow_pos _)
 omega
set_option maxRecDepth 100000 in
set_option maxHeartbeats 800000 in
theorem firsts_any (ls:List Nat) (H:Ok ls) (w:World) :
  Calls Tryz.prog 182 #[.agg (ia 16 (cn ls))] w fun e w'=>e = .returned (.agg (ia 16 (fc ls)))∧Below w.heap.size w w':=by
 have HO:=Lib.hid H
 clear H
 go_enter Tryz.func182,Tryz.ntmps182
 go_upto_region 2 with (first
  | (refine wpList_box_row rfl 237 (.tmp 0) rfl (ia 16 (cn ls)) rfl ?_;intro W hb ht hs;have HS:=Lib.hid hs;clear hs)
  | (refine wpList_alloc_z rfl 237 rfl _ z61 ?_;intro W hb ht hs;have HS:=Lib.hid hs;clear hs))
 rename_i W1 hb1 ht1 HS1 W2 hb2 ht2 HS2 K1 hK1 K0 hK0
 obtain ⟨p,hp⟩:∃ p,p=w.heap.size:=⟨_,rfl⟩
 obtain ⟨q,hq⟩:∃ q,q=W1.heap.size:=⟨_,rfl⟩
 obtain ⟨r,hr⟩:∃ r,r=W2.heap.size:=⟨_,rfl⟩
 have H3:Hid (Three w p q r (ia 16 (cn ls)) (ia 16 fun _=>0) (ia 16 fun _=>0) W):=by
  subst hp hq hr
  have h1:=HS1.out
  have h2:=HS2.out
  exact Lib.hid ⟨(hb1.touch ht2 (fun h=>h)).touch ht (fun h=>h),hb2.touch ht (fun h=>h),hb,(ht1.trans (ht2.trans ht)).below (Nat.le_refl _) (fun _ h=>h.elim),by omega,by omega,by omega⟩
 rw [←hp,←hq,←hr]
 clear hp hq hr hb1 ht1 HS1 hb2 ht2 HS2 hb ht HS
 go_wp2
 go_loopw [4] (fun i wr=>∃ k:Nat,1≤k∧k≤16∧i = .int .i64 k∧Three w p q r (ia 16 (cn ls)) (ia 16 fun _=>0) (ia 16 (upf (fc ls) k)) wr) (fun i _=>16-(intOf i).toNat)
 case atStart=>exact ⟨1,by omega,by omega,rfl,by rw [upf_one _ rfl];exact H3.out⟩
 case round=>
  obtain ⟨k,hk1,hk,rfl,hrel⟩:=hrel
  have HR:=Lib.hid hrel
  clear hrel H3
  by_cases hlt:k<16
  ·have hkk:(k:Int)≤15:=by omega
   obtain ⟨j,rfl⟩:∃ j,k=j+1:=⟨k-1,by omega⟩
   have g1:=(HR.out.c.cell j).trans (va_at 16 _ j (by omega))
   have g2:=(HR.out.a.cell j).trans (va_at 16 _ j (by omega))
   have g3:=HR.out.c.free (j+1)
   have g4:=(HR.out.c.cell (j+1)).trans (va_at 16 _ (j+1) hlt)
   have b1:=fc_le HO.out j (by omega)
   have b2:=cn_le ls j
   have b3:=HO.out.len
   rw [show upf (fc ls) (j+1) j=fc ls j by unfold upf;rw [if_pos (by omega)]] at g1
   have e1:IntKind.i64.wrap (j:Int)=j:=by rw [IntKind.wrap_i64];omega
   have e2:(j:Int)<16:=by omega
   have e3:(j:Int)+1<16:=by omega
   have e4:(0:Int)≤(j:Int)+1:=by omega
   have e5:((j:Int)+1).toNat=j+1:=by omega
   have e6:IntKind.i64.wrap ((fc ls j:Int)+cn ls j)=(fc ls j:Int)+cn ls j:=by rw [IntKind.wrap_i64];omega
   have e7:IntKind.i64.wrap (((fc ls j:Int)+cn ls j)*2)=(fc ls (j+1):Nat):=by rw [IntKind.wrap_i64,fc];omega
   go_wp2
   go_still_tail 12,(by kernel_rfl)
   change wpList _ _ _ _ _ wr.drew
   go_wp2
   go_roundw
   case rel=>
    refine ⟨j+1+1,by omega,by omega,by go_num,?_⟩
    have:=(HR.out.setC (j+1) (.int .i64 (fc ls (j+1):Nat))).drew
    rw [upf_set] at this
    exact this
   case measure=>simp [intOf];omega
  ·have hk':k=16:=by omega
   subst hk'
   rw [upf_all] at HR
   go_wp2_with (first
    | (refine wpList_load_row rfl 237 (.tmp 3) rfl r rfl 237 _ HR.out.c 16 3 Tryz.underlying237 i61 ?_)
    | (refine wpList_store_row rfl 237 (.tmp 2) (.tmp 21) rfl rfl q rfl _ rfl 237 _ HR.out.b i61 (by simp only [va_size]) (ia_one 16 _) ?_;intro W4 hb4 ht4 hs4;have HB:=Lib.hid (HR.out.setB hb4 ht4);clear hb4 ht4 hs4))
   exact bodyPost_ret (results_cell Tryz.results182 _ _ _ q rfl 237 _ HB.out.b 16 3 Tryz.underlying237 i61) rfl ⟨rfl,HB.out.below⟩
set_option maxRecDepth 100000 in
set_option maxHeartbeats 800000 in
theorem places_any (ls:List Nat) (hl:ls.length≤320) (w:World) :
  Calls Tryz.prog 191 #[.agg (ia 16 (cn ls))] w fun e w'=>e = .returned (.agg (ia 16 (fp ls)))∧Below w.heap.size w w':=by
 go_enter Tryz.func191,Tryz.ntmps191
 go_upto_region 2 with (first
  | (refine wpList_box_row rfl 237 (.tmp 0) rfl (ia 16 (cn ls)) rfl ?_;intro W hb ht hs;have HS:=Lib.hid hs;clear hs)
  | (refine wpList_alloc_z rfl 237 rfl _ z61 ?_;intro W hb ht hs;have HS:=Lib.hid hs;clear hs))
 rename_i W1 hb1 ht1 HS1 W2 hb2 ht2 HS2 K1 hK1 K0 hK0
 obtain ⟨p,hp⟩:∃ p,p=w.heap.size:=⟨_,rfl⟩
 obtain ⟨q,hq⟩:∃ q,q=W1.heap.size:=⟨_,rfl⟩
 obtain ⟨r,hr⟩:∃ r,r=W2.heap.size:=⟨_,rfl⟩
 have H3:Hid (Three w p q r (ia 16 (cn ls)) (ia 16 fun _=>0) (ia 16 fun _=>0) W):=by
  subst hp hq hr
  have h1:=HS1.out
  have h2:=HS2.out
  exact Lib.hid ⟨(hb1.touch ht2 (fun h=>h)).touch ht (fun h=>h),hb2.touch ht (fun h=>h),hb,(ht1.trans (ht2.trans ht)).below (Nat.le_refl _) (fun _ h=>h.elim),by omega,by omega,by omega⟩
 rw [←hp,←hq,←hr]
 clear hp hq hr hb1 ht1 HS1 hb2 ht2 HS2 hb ht HS
 go_wp2
 go_loopw [4] (fun i wr=>∃ k:Nat,1≤k∧k≤16∧i = .int .i64 k∧Three w p q r (ia 16 (cn ls)) (ia 16 fun _=>0) (ia 16 (upf (fp ls) k)) wr) (fun i _=>16-(intOf i).toNat)
 case atStart=>exact ⟨1,by omega,by omega,rfl,by rw [upf_one _ rfl];exact H3.out⟩
 case round=>
  obtain ⟨k,hk1,hk,rfl,hrel⟩:=hrel
  have HR:=Lib.hid hrel
  clear hrel H3
  by_cases hlt:k<16
  ·have hkk:(k:Int)≤15:=by omega
   obtain ⟨j,rfl⟩:∃ j,k=j+1:=⟨k-1,by omega⟩
   have g1:=(HR.out.c.cell j).trans (va_at 16 _ j (by omega))
   have g2:=(HR.out.a.cell j).trans (va_at 16 _ j (by omega))
   have g3:=HR.out.c.free (j+1)
   have g4:=(HR.out.c.cell (j+1)).trans (va_at 16 _ (j+1) hlt)
   have b1:=fp_le ls hl j
   have b2:=cn_le ls j
   rw [show upf (fp ls) (j+1) j=fp ls j by unfold upf;rw [if_pos (by omega)]] at g1
   have e1:IntKind.i64.wrap (j:Int)=j:=by rw [IntKind.wrap_i64];omega
   have e2:(j:Int)<16:=by omega
   have e3:(j:Int)+1<16:=by omega
   have e4:(0:Int)≤(j:Int)+1:=by omega
   have e5:((j:Int)+1).toNat=j+1:=by omega
   have e6:IntKind.i64.wrap ((fp ls j:Int)+cn ls j)=(fp ls (j+1):Nat):=by rw [IntKind.wrap_i64,fp];omega
   go_wp2
   go_still_tail 11,(by kernel_rfl)
   change wpList _ _ _ _ _ wr.drew
   go_wp2
   go_roundw
   case rel=>
    refine ⟨j+1+1,by omega,by omega,by go_num,?_⟩
    have:=(HR.out.setC (j+1) (.int .i64 (fp ls (j+1):Nat))).drew
    rw [upf_set] at this
    exact this
   case measure=>simp [intOf];omega
  ·have hk':k=16:=by omega
   subst hk'
   rw [upf_all] at HR
   go_wp2_with (first
    | (refine wpList_load_row rfl 237 (.tmp 3) rfl r rfl 237 _ HR.out.c 16 3 Tryz.underlying237 i61 ?_)
    | (refine wpList_store_row rfl 237 (.tmp 2) (.tmp 20) rfl rfl q rfl _ rfl 237 _ HR.out.b i61 (by simp only [va_size]) (ia_one 16 _) ?_;intro W4 hb4 ht4 hs4;have HB:=Lib.hid (HR.out.setB hb4 ht4);clear hb4 ht4 hs4))
   exact bodyPost_ret (results_cell Tryz.results191 _ _ _ q rfl 237 _ HB.out.b 16 3 Tryz.underlying237 i61) rfl ⟨rfl,HB.out.below⟩
def cc (vw vo:Value) (f g:Nat→Nat):Array Value:=
 va 34 fun i=>if i=0 then vw else if i=1 then vo else if i<18 then .int .i64 (f (i-2):Nat) else .int .i64 (g (i-18):Nat)
def il (f:Nat→Nat):List Value:=(List.range 16).map fun i => .int .i64 (f i:Nat)
theorem cc_0 (vw vo:Value) (f g:Nat→Nat):(cc vw vo f g)[0]? = some vw:=va_at 34 _ 0 (by omega)
theorem cc_1 (vw vo:Value) (f g:Nat→Nat):(cc vw vo f g)[1]? = some vo:=va_at 34 _ 1 (by omega)
theorem cc_f (vw vo:Value) (f g:Nat→Nat) (j:Nat) (h:j<16):(cc vw vo f g)[2+j]? = some (.int .i64 (f j:Nat)):=by
 rw [cc,va_at 34 _ (2+j) (by omega)]
 rw [if_neg (by omega),if_neg (by omega),if_pos (by omega),show 2+j-2=j by omega]
theorem cc_g (vw vo:Value) (f g:Nat→Nat) (j:Nat) (h:j<16):(cc vw vo f g)[18+j]? = some (.int .i64 (g j:Nat)):=by
 rw [cc,va_at 34 _ (18+j) (by omega)]
 rw [if_neg (by omega),if_neg (by omega),if_neg (by omega),show 18+j-18=j by omega]
theorem cc_set0 (vw vo u:Value) (f g:Nat→Nat):(cc vw vo f g).setIfInBounds 0 u=cc u vo f g:=by
 unfold cc
 rw [va_set]
 refine va_congr fun i _=>?_
 by_cases h:i=0
 ·simp [h]
 ·simp [h]
theorem cc_set1 (vw vo u:Value) (f g:Nat→Nat):(cc vw vo f g).setIfInBounds 1 u=cc vw u f g:=by
 unfold cc
 rw [va_set]
 refine va_congr fun i _=>?_
 by_cases h:i=1
 ·simp [h]
 ·simp [h]
theorem cc_rf {w:World} {p:Nat} {vw vo:Value} {f g:Nat→Nat} (h:Blk w p 239 (cc vw vo f g)):w.rangeAt p 2 (il f):=fun j v hv=>by
 have hj:j<16:=by have:=(List.getElem?_eq_some_iff.1 hv).1;simpa [il] using this
 rw [h.cell,cc_f _ _ _ _ _ hj,←hv]
 simp [il,hj]
theorem cc_rg {w:World} {p:Nat} {vw vo:Value} {f g:Nat→Nat} (h:Blk w p 239 (cc vw vo f g)):w.rangeAt p 18 (il g):=fun j v hv=>by
 have hj:j<16:=by have:=(List.getElem?_eq_some_iff.1 hv).1;simpa [il] using this
 rw [h.cell,cc_g _ _ _ _ _ hj,←hv]
 simp [il,hj]
theorem ia_r {w:World} {p:Nat} {f:Nat→Nat} (h:Blk w p 237 (ia 16 f)):w.rangeAt p 0 (il f):=fun j v hv=>by
 have hj:j<16:=by have:=(List.getElem?_eq_some_iff.1 hv).1;simpa [il] using this
 rw [Nat.zero_add,h.cell,va_at 16 _ j hj,←hv]
 simp [il,hj]
theorem il_i (f:Nat→Nat):(Tryz.prog.info? 237).map (·.size)=some (il f).length:=by rw [show (il f).length=16 by simp [il]];kernel_rfl
theorem wpList_load_il {ops:Array Oper} {rest:List Oper} {op:Oper} {a:Act} {w:World} {Q:Exit→Act→World→Prop} (hgd:op.guard=none) (x:Operand) (ho:op.op = .load 237 x)
  (b o:Nat) (hx:a.eval x = .pointer (some ⟨b,o,none⟩)) (f:Nat→Nat) (hc:w.rangeAt b o (il f))
  (h:wpList Tryz.prog ops Q rest (a.put op.dst (.agg (ia 16 f))) w):wpList Tryz.prog ops Q (op::rest) a w:=
 wpList_load_mid hgd 237 x ho b o hx (il f) _ hc Tryz.underlying237 rfl (il_i f) h
def wordF (ls:List Nat) (i:Nat):Value:=if i%2=0 then .int .u32 (rv (ln ls (i/2)) (cd ls (i/2)):Nat) else .int .i64 (ln ls (i/2):Nat)
def wordK (ls:List Nat) (k i:Nat):Value:=if i/2<k then wordF ls i else if i%2=0 then .int .u32 0 else .int .i64 0
def Ordered (ls:List Nat) (k:Nat) (F:Nat→Value):Prop:=∀ s,s<k→ln ls s≠0→F (fp ls (ln ls s)+rk ls s) = .int .i64 (s:Nat)
structure CodeAt (w:World) (p:Nat) (ls:List Nat):Prop where
 ok:Ok ls
 blk:∃ gw go F,Blk w p 239 (cc (.slice (some ⟨gw,0,none⟩) ls.length ls.length) (.slice (some ⟨go,0,none⟩) (many ls) (many ls)) (fc ls) (cn ls))∧
  Blk w gw 260 (va (ls.length*2) (wordF ls))∧Blk w go 3 (va (many ls) F)∧Ordered ls ls.length F
theorem CodeAt.below {w w':World} {p:Nat} {ls:List Nat} (h:CodeAt w p ls) (hb:Below w.heap.size w w'):CodeAt w' p ls:=by
 obtain ⟨ho,gw,go,F,h1,h2,h3,h4⟩:=h
 exact ⟨ho,gw,go,F,h1.below hb,h2.below hb,h3.below hb,h4⟩
structure Gv (w:World) (pc gw go pp pk:Nat) (CC W O P K:Array Value) (wr:World):Prop where
 c:Blk wr pc 239 CC
 wd:Blk wr gw 260 W
 od:Blk wr go 3 O
 pl:Blk wr pp 237 P
 cs:Blk wr pk 237 K
 touch:Touch (fun k=>k=pc) w wr
 lo:pc<w.heap.size∧w.heap.size≤gw∧gw<go∧go<pp∧pp<pk
section
variable {w wr:World} {pc gw go pp pk:Nat} {CC W O P K:Array Value}
theorem Gv.drew (h:Gv w pc gw go pp pk CC W O P K wr):Gv w pc gw go pp pk CC W O P K wr.drew:=⟨h.c,h.wd,h.od,h.pl,h.cs,h.touch.drew,h.lo⟩
theorem Gv.setW (h:Gv w pc gw go pp pk CC W O P K wr) (i:Nat) (u:Value):Gv w pc gw go pp pk CC (W.setIfInBounds i u) O P K (wr.setCell ⟨gw,i,none⟩ u):=by
 have:=h.lo
 exact ⟨h.c.other i u (by omega),h.wd.setCell i u,h.od.other i u (by omega),h.pl.other i u (by omega),h.cs.other i u (by omega),h.touch.setCell _ _ (.inr (by show w.heap.size≤gw;omega)),h.lo⟩
theorem Gv.setO (h:Gv w pc gw go pp pk CC W O P K wr) (i:Nat) (u:Value):Gv w pc gw go pp pk CC W (O.setIfInBounds i u) P K (wr.setCell ⟨go,i,none⟩ u):=by
 have:=h.lo
 exact ⟨h.c.other i u (by omega),h.wd.other i u (by omega),h.od.setCell i u,h.pl.other i u (by omega),h.cs.other i u (by omega),h.touch.setCell _ _ (.inr (by show w.heap.size≤go;omega)),h.lo⟩
theorem Gv.setP (h:Gv w pc gw go pp pk CC W O P K wr) (i:Nat) (u:Value):Gv w pc gw go pp pk CC W O (P.setIfInBounds i u) K (wr.setCell ⟨pp,i,none⟩ u):=by
 have:=h.lo
 exact ⟨h.c.other i u (by omega),h.wd.other i u (by omega),h.od.other i u (by omega),h.pl.setCell i u,h.cs.other i u (by omega),h.touch.setCell _ _ (.inr (by show w.heap.size≤pp;omega)),h.lo⟩
theorem Gv.setK (h:Gv w pc gw go pp pk CC W O P K wr) (i:Nat) (u:Value):Gv w pc gw go pp pk CC W O P (K.setIfInBounds i u) (wr.setCell ⟨pk,i,none⟩ u):=by
 have:=h.lo
 exact ⟨h.c.other i u (by omega),h.wd.other i u (by omega),h.od.other i u (by omega),h.pl.other i u (by omega),h.cs.setCell i u,h.touch.setCell _ _ (.inr (by show w.heap.size≤pk;omega)),h.lo⟩
end
def run_ (b:Nat→Nat) (ls:List Nat) (k n:Nat):Nat:=b n+if n=0 then 0 else (ls.take k).count n
theorem run_zero (b:Nat→Nat) (ls:List Nat):run_ b ls 0=b:=by funext n;simp [run_]
theorem run_same (b:Nat→Nat) {ls:List Nat} {k:Nat} (hk:k<ls.length) (h:ln ls k=0):run_ b ls (k+1)=run_ b ls k:=by
 funext n
 unfold run_
 rw [take_succ_ln hk,List.count_append,h]
 by_cases e:n=0
 ·simp [e]
 ·simp [e,Ne.symm e]
theorem run_step (b:Nat→Nat) {ls:List Nat} {k:Nat} (hk:k<ls.length) (h:ln ls k≠0) (n:Nat):run_ b ls (k+1) n=if n=ln ls k then run_ b ls k (ln ls k)+1 else run_ b ls k n:=by
 unfold run_
 rw [take_succ_ln hk,List.count_append,List.count_singleton]
 by_cases e:n=ln ls k
 ·subst e;simp [h];omega
 ·simp [e,Ne.symm e]
theorem run_at (b:Nat→Nat) {ls:List Nat} {k:Nat} (h:ln ls k≠0):run_ b ls k (ln ls k)=b (ln ls k)+rk ls k:=by
 unfold run_ rk
 rw [if_neg h]
theorem word_zero (ls:List Nat):wordK ls 0=fun i=>if i%2=0 then .int .u32 0 else .int .i64 0:=by
 funext i
 simp [wordK]
theorem word_same {ls:List Nat} {k:Nat} (h:ln ls k=0):wordK ls (k+1)=wordK ls k:=by
 funext i
 unfold wordK
 by_cases h1:i/2<k
 ·simp [h1,show i/2<k+1 by omega]
 ·by_cases h2:i/2=k
  ·rw [if_pos (by omega),if_neg h1]
   unfold wordF
   rw [h2,h]
   rfl
  ·simp [h1,show ¬i/2<k+1 by omega]
theorem word_step (n:Nat) (ls:List Nat) (k:Nat):((va n (wordK ls k)).setIfInBounds (k*2) (.int .u32 (rv (ln ls k) (cd ls k):Nat))).setIfInBounds (k*2+1) (.int .i64 (ln ls k:Nat))=va n (wordK ls (k+1)):=by
 rw [va_set,va_set]
 refine va_congr fun i _=>?_
 unfold wordK
 by_cases h0:i=k*2+1
 ·subst h0
  rw [if_pos rfl,if_pos (by omega)]
  unfold wordF
  rw [if_neg (by omega),show (k*2+1)/2=k by omega]
 ·rw [if_neg h0]
  by_cases h1:i=k*2
  ·subst h1
   rw [if_pos rfl,if_pos (by omega)]
   unfold wordF
   rw [if_pos (by omega),show k*2/2=k by omega]
  ·rw [if_neg h1]
   by_cases h2:i/2<k
   ·simp [h2,show i/2<k+1 by omega]
   ·simp [h2,show ¬i/2<k+1 by omega]
theorem word_all (ls:List Nat):va (ls.length*2) (wordK ls ls.length)=va (ls.length*2) (wordF ls):=by
 refine va_congr fun i hi=>?_
 unfold wordK
 rw [if_pos (by omega)]
theorem ordered_step {ls:List Nat} {k:Nat} {F:Nat→Value} (h:Ordered ls k F) (hk:ln ls k≠0):Ordered ls (k+1) (fun i=>if i=fp ls (ln ls k)+rk ls k then .int .i64 (k:Nat) else F i):=by
 intro s hs hl
 show (if _ then _ else _)=_
 by_cases e:s=k
 ·subst e;rw [if_pos rfl]
 ·rw [if_neg (fun x=>e (fp_inj hl hk x))]
  exact h s (by omega) hl
theorem ordered_same {ls:List Nat} {k:Nat} {F:Nat→Value} (h:Ordered ls k F) (hk:ln ls k=0):Ordered ls (k+1) F:=by
 intro s hs hl
 by_cases e:s=k
 ·subst e;exact absurd hk hl
 ·exact h s (by omega) hl
def Gave (w:World) (pc:Nat) (ls:List Nat) (e:Ending) (w':World):Prop:=e = .returned (.tuple #[])∧CodeAt w' pc ls∧Touch (fun k=>k=pc) w w'
theorem wz (n:Nat):va (n*2) (fun i=>(Value.agg #[.int .u32 0,.int .i64 0]).cells[i%(Value.agg #[.int .u32 0,.int .i64 0]).cells.size]!)=va (n*2) (fun i=>if i%2=0 then .int .u32 0 else .int .i64 0):=by
 refine va_congr fun i _=>?_
 show #[Value.int .u32 0,.int .i64 0][i%2]! = _
 rcases Nat.mod_two_eq_zero_or_one i with h | h <;> rw [h] <;> rfl
theorem iz (n:Nat):va (n*1) (fun i=>(Value.int .i64 0).cells[i%(Value.int .i64 0).cells.size]!)=va n (fun _ => .int .i64 0):=by
 rw [Nat.mul_one]
 refine va_congr fun i _=>?_
 show #[Value.int .i64 0][i%1]! = _
 rw [Nat.mod_one]
 rfl
structure St (w:World) (pc gw go:Nat) (CC W O:Array Value) (wr:World):Prop where
 c:Blk wr pc 239 CC
 wd:Blk wr gw 260 W
 od:Blk wr go 3 O
 touch:Touch (fun k=>k=pc) w wr
 lo:pc<w.heap.size∧w.heap.size≤gw∧gw<go
theorem St.grow {w wr w':World} {pc gw go:Nat} {CC W O:Array Value} (h:St w pc gw go CC W O wr) (hb:Below wr.heap.size wr w'):St w pc gw go CC W O w':=
 ⟨h.c.below hb,h.wd.below hb,h.od.below hb,h.touch.trans' (Touch.of_below hb) (fun _ e _=>e),h.lo⟩
theorem St.other {w wr w':World} {pc gw go g:Nat} {CC W O:Array Value} (h:St w pc gw go CC W O wr) (ht:Touch (fun k=>k=g) wr w') (hg:go<g) (hw:w.heap.size≤g):St w pc gw go CC W O w':=by
 have:=h.lo
 exact ⟨h.c.touch ht (by omega),h.wd.touch ht (by omega),h.od.touch ht (by omega),h.touch.trans' ht (fun i e hi=>by omega),h.lo⟩
theorem St.go {w wr w':World} {pc gw go:Nat} {CC W O:Array Value} (h:St w pc gw go CC W O wr) (hb:Touch (fun _=>False) wr w'):St w pc gw go CC W O w':=
 h.grow (hb.below (Nat.le_refl _) fun _ h=>h.elim)
def GvK (w:World) (pc gw go pp pk N:Nat) (ls:List Nat) (k:Nat) (wr:World):Prop:=
 ∃ F,Ordered ls k F∧Gv w pc gw go pp pk (cc (.slice (some ⟨gw,0,none⟩) N N) (.slice (some ⟨go,0,none⟩) (many ls) (many ls)) (fc ls) (cn ls)) (va (N*2) (wordK ls k)) (va (many ls) F) (ia 16 (run_ (fp ls) ls k)) (ia 16 (run_ (fc ls) ls k)) wr
set_option maxHeartbeats 3200000 in
theorem give_any (ao:Option Addr) (c:Nat) (zs:List Int) (ls:List Nat) (w:World) (pc:Nat) (h:IS w ao zs) (H:Ok ls) (hlen:ls.length=zs.length) (hz:∀ k,k<zs.length→zs.getD k 0=(ln ls k:Nat))
  (hb:Blk w pc 239 (cc (.slice none 0 0) (.slice none 0 0) (fc ls) (cn ls))) (hne:∀ b off,ao=some ⟨b,off,none⟩→zs≠[]→¬b=pc) :
  Calls Tryz.prog 183 #[.pointer (some ⟨pc,0,none⟩),.slice ao zs.length c] w (Gave w pc ls):=by
 have HI:=Lib.hid h
 have HO:=Lib.hid H
 have HL:=Lib.hid hlen
 have HZ:=Lib.hid hz
 have HB:=Lib.hid hb
 have HN:=Lib.hid hne
 have hl:=H.len
 have hzl:zs.length≤320:=by omega
 have hmany:many ls≤5120:=fp_le ls hl 16
 clear h H hlen hz hb hne hl
 have hpc:=HB.out.lt
 have hf0:=HB.out.free 0
 have hc0:=(HB.out.cell 0).trans (cc_0 _ _ _ _)
 go_enter Tryz.func183,Tryz.ntmps183
 go_upto_region 1 with (refine wpList_make_z rfl 235 (.tmp 10) (.tmp 10) rfl 260 (.agg #[.int .u32 0,.int .i64 0]) 2 16 zs.length Tryz.underlying235 (by kernel_rfl) .i64 .i64 _ _ rfl rfl rfl rfl (by omega) (by omega) ?_;intro W hb1 ht1 hs1;have hg0:=(HB.out.touch ht1 (fun h=>h)).free 0;have hd0:=((HB.out.touch ht1 (fun h=>h)).cell 0).trans (cc_0 _ _ _ _);have HS1:=Lib.hid hs1;clear hs1)
 obtain ⟨gw,hgw⟩:∃ gw,gw=w.heap.size:=⟨_,rfl⟩
 have HS1:=HS1.out
 rw [←hgw]
 rw [←hgw,wz,←word_zero ls] at hb1
 rw [←hgw] at HS1
 have HC1:=Lib.hid (Blk.setCell (HB.out.touch ht1 (fun h=>h)) 0 (.slice (some ⟨gw,0,none⟩) zs.length zs.length))
 rw [cc_set0] at HC1
 have HW1:=Lib.hid (hb1.other 0 (.slice (some ⟨gw,0,none⟩) zs.length zs.length) (g':=pc) (by omega))
 have HT1:=Lib.hid ((ht1.mono (T:=fun k=>k=pc) (fun _ h=>h.elim)).setCell ⟨pc,0,none⟩ (.slice (some ⟨gw,0,none⟩) zs.length zs.length) (.inl rfl))
 have HS1':Hid ((W.setCell ⟨pc,0,none⟩ (.slice (some ⟨gw,0,none⟩) zs.length zs.length)).heap.size=gw+1):=Lib.hid (by simpa [World.setCell] using HS1)
 have HG:=Lib.hid hgw
 clear hgw hb1 ht1 HS1 hg0 hd0 hf0 hc0
 generalize W.setCell ⟨pc,0,none⟩ (.slice (some ⟨gw,0,none⟩) zs.length zs.length)=W1 at *
 clear HB
 go_upto_region 2 with (first
  | (refine wpList_load_il rfl (.tmp 17) rfl pc 18 rfl (cn ls) (cc_rg HC1.out) ?_)
  | (go_at_call 190;(refine (sum_any ls HO.out.len _).mono ?_);rintro e w2 ⟨rfl,hb2⟩;have HB2:=Lib.hid hb2;clear hb2)
  | (refine wpList_make_z rfl 88 (.tmp 19) (.tmp 19) rfl 3 (.int .i64 0) 1 8 (many ls) Tryz.underlying88 (by kernel_rfl) .i64 .i64 _ _ rfl rfl rfl rfl (by omega) (by omega) ?_;intro W hb1 ht1 hs1;have HC2:=Lib.hid ((HC1.out.below HB2.out).touch ht1 (fun h=>h));have hg0:=HC2.out.free 1;have hd0:=(HC2.out.cell 1).trans (cc_1 _ _ _ _);have HS2:=Lib.hid hs1;clear hs1))
 obtain ⟨go,hgo⟩:∃ go,go=w2.heap.size:=⟨_,rfl⟩
 rw [←hgo]
 rw [←hgo,iz] at hb1
 have HG2:=Lib.hid hgo
 have hlt2:gw<go:=by
  have:=HB2.out.size
  have:=HS1'.out
  rw [hgo];omega
 have HA:Hid (St w pc gw go (cc (.slice (some ⟨gw,0,none⟩) zs.length zs.length) (.slice (some ⟨go,0,none⟩) (many ls) (many ls)) (fc ls) (cn ls)) (va (zs.length*2) (wordK ls 0)) (va (many ls) fun _ => .int .i64 0) (W.setCell ⟨pc,1,none⟩ (.slice (some ⟨go,0,none⟩) (many ls) (many ls)))):=by
  have hlt1:pc<gw:=by rw [HG.out];exact hpc
  refine Lib.hid ⟨?_,((HW1.out.below HB2.out).touch ht1 (fun h=>h)).other _ _ (by omega),hb1.other _ _ (by omega),?_,hpc,by rw [HG.out];exact Nat.le_refl _,hlt2⟩
  ·have:=HC2.out.setCell 1 (.slice (some ⟨go,0,none⟩) (many ls) (many ls))
   rwa [cc_set1] at this
  ·exact (HT1.out.trans' ((Touch.of_below HB2.out).trans ht1) (fun _ h _=>h.elim)).setCell _ _ (.inl rfl)
 clear HC2 HB2 HW1 HT1 HC1 hb1 ht1 hg0 hd0 HS2 HG2 hgo HS1'
 generalize W.setCell ⟨pc,1,none⟩ (.slice (some ⟨go,0,none⟩) (many ls) (many ls))=W2 at *
 go_upto_region 3 with (first
  | (refine wpList_load_il rfl (.tmp 25) rfl pc 18 rfl (cn ls) (cc_rg HA.out.c) ?_)
  | (go_at_call 191;(refine (places_any ls HO.out.len _).mono ?_);rintro e w3 ⟨rfl,hb3⟩;have HA3:=Lib.hid (HA.out.grow hb3);clear hb3)
  | (refine wpList_alloc_z rfl 237 rfl _ z61 ?_;intro W3 hb3 ht3 hs3;have HA4:=Lib.hid (HA3.out.go ht3);have HS3:=Lib.hid hs3;clear hs3)
  | (refine wpList_store_row rfl 237 (.tmp 4) (.tmp 27) rfl rfl w3.heap.size rfl _ rfl 237 _ hb3 i61 (by simp only [va_size]) (ia_one 16 _) ?_;intro W4 hb4 ht4 hs4;have HS4:=Lib.hid hs4;clear hs4))
 obtain ⟨pp,hpp⟩:∃ pp,pp=w3.heap.size:=⟨_,rfl⟩
 have hgp:go<pp:=by rw [hpp];exact HA3.out.od.lt
 have hwp:w.heap.size≤pp:=by have:=HA3.out.lo;omega
 rw [←hpp]
 rw [←hpp] at ht4 hb4
 have HA5:=Lib.hid (HA4.out.other ht4 hgp hwp)
 have HP5:=Lib.hid hb4
 clear HA3 HA4 HA hb3 ht3 HS3 hb4 ht4 HS4 hpp
 go_upto_region 4 with (first
  | (refine wpList_load_il rfl (.tmp 30) rfl pc 2 rfl (fc ls) (cc_rf HA5.out.c) ?_)
  | (refine wpList_alloc_z rfl 237 rfl _ z61 ?_;intro W6 hb6 ht6 hs6;have HS6:=Lib.hid hs6;clear hs6)
  | (refine wpList_store_row rfl 237 (.tmp 5) (.tmp 31) rfl rfl W4.heap.size rfl _ rfl 237 _ hb6 i61 (by simp only [va_size]) (ia_one 16 _) ?_;intro W7 hb7 ht7 hs7;have HS7:=Lib.hid hs7;clear hs7))
 obtain ⟨pk,hpk⟩:∃ pk,pk=W4.heap.size:=⟨_,rfl⟩
 have hpk2:pp<pk:=by rw [hpk];exact HP5.out.lt
 rw [←hpk]
 rw [←hpk] at ht7 hb7
 have HR0:Hid (Gv w pc gw go pp pk (cc (.slice (some ⟨gw,0,none⟩) zs.length zs.length) (.slice (some ⟨go,0,none⟩) (many ls) (many ls)) (fc ls) (cn ls)) (va (zs.length*2) (wordK ls 0)) (va (many ls) fun _ => .int .i64 0) (ia 16 (fp ls)) (ia 16 (fc ls)) W7):=by
  have H:=(HA5.out.go ht6).other ht7 (by omega) (by omega)
  have:=HA5.out.lo
  exact Lib.hid ⟨H.c,H.wd,H.od,(HP5.out.touch ht6 (fun h=>h)).touch ht7 (by omega),hb7,H.touch,by omega,by omega,by omega,by omega,by omega⟩
 clear HA5 HP5 hb6 ht6 HS6 hb7 ht7 HS7 hpk
 go_wp2
 have HR1:Hid (GvK w pc gw go pp pk zs.length ls 0 W7):=Lib.hid ⟨_,(fun s h=>absurd h (Nat.not_lt_zero s)),by rw [run_zero,run_zero];exact HR0.out⟩
 clear HR0
 go_loopw [34] (fun i wr=>∃ k:Nat,k≤zs.length∧i = .int .i64 k∧GvK w pc gw go pp pk zs.length ls k wr) (fun i _=>zs.length-(intOf i).toNat)
 case atStart=>exact ⟨0,Nat.zero_le _,rfl,HR1.out⟩
 case round=>
  obtain ⟨k,hk,rfl,F,hF,hrel⟩:=hrel
  have HF:=Lib.hid hF
  have HR:=Lib.hid hrel
  clear hrel hF HR1
  by_cases hlt:k<zs.length
  ·have hkk:(k:Int)<zs.length:=by omega
   have hkl:k<ls.length:=by rw [HL.out];exact hlt
   obtain ⟨b,off,rfl,hcell⟩:=(HI.out.touch HR.out.touch (fun b off e hx=>HN.out b off e hx)).at hlt
   obtain ⟨n,hn⟩:∃ n,n=ln ls k:=⟨_,rfl⟩
   have hn15:n≤15:=by rw [hn];exact ln_le HO.out k
   rw [HZ.out k hlt,←hn] at hcell
   have HX:=Lib.hid hn
   clear hn
   by_cases h0:n=0
   ·subst h0
    go_wp2
    go_roundw
    case rel=>exact ⟨k+1,by omega,by go_num,F,ordered_same HF.out HX.out.symm,by rw [word_same HX.out.symm,run_same _ hkl HX.out.symm,run_same _ hkl HX.out.symm];exact HR.out⟩
    case measure=>simp [intOf];omega
   ·have hb0:((n:Int) == 0)=false:=by simp;omega
    have hn0:1≤n:=by omega
    have hl0:ln ls k≠0:=by rw [←HX.out];exact h0
    have hx:=cd_lt HO.out hl0
    have hp15:2^ln ls k≤2^15:=Nat.pow_le_pow_right (by omega) (ln_le HO.out k)
    have hy:=fp_lt HO.out hl0
    obtain ⟨x,hxe⟩:∃ x,x=cd ls k:=⟨_,rfl⟩
    obtain ⟨y,hye⟩:∃ y,y=fp ls (ln ls k)+rk ls k:=⟨_,rfl⟩
    rw [←hxe] at hx
    rw [←hye] at hy
    have hx15:x<32768:=by omega
    clear hx hp15
    have HXE:=Lib.hid hxe
    have HYE:=Lib.hid hye
    have HL0:=Lib.hid hl0
    clear hxe hye hl0 h0
    have g0:=(HR.out.c.cell 0).trans (cc_0 _ _ _ _)
    have g1:=(HR.out.cs.cell n).trans (va_at 16 _ n (by omega))
    rw [show run_ (fc ls) ls k n=x by rw [HXE.out,HX.out,run_at _ HL0.out];rfl] at g1
    have g2:=HR.out.wd.free (k*2)
    have g3:=HR.out.wd.free (k*2+1)
    have g4:=(HR.out.wd.cell (k*2)).trans (va_at _ _ (k*2) (by omega))
    have g5:=(HR.out.wd.cell (k*2+1)).trans (va_at _ _ (k*2+1) (by omega))
    have e1:(n:Int)<16:=by omega
    have e2:(n:Int)≤32:=by omega
    have e3:IntKind.u32.wrap (x:Int)=x:=by rw [IntKind.wrap_u32'];omega
    have hlo:=HR.out.lo
    have n1:¬pc=gw:=by omega
    have n2:¬gw=pc:=by omega
    have n3:¬pk=gw:=by omega
    have n4:¬gw=pk:=by omega
    have HLO:=Lib.hid hlo
    clear hlo
    go_wp2_with fail
    go_region_held3 (fun w'=>w'.cell? ⟨pc,0,none⟩=some (.slice (some ⟨gw,0,none⟩) zs.length zs.length)∧w'.cell? ⟨pk,n,none⟩=some (.int .i64 (x:Nat))) (go_keep)
     (first | (go_at_call 175;refine (reverse_yes x n _ (by omega) (by omega)).mono ?_;rintro e w' ⟨rfl,rfl⟩))
    have HR8:=Lib.hid (((HR.out.setW (k*2) (.int .u32 (rv n x:Nat))).setW (k*2+1) (.int .i64 (n:Nat))).drew)
    rw [show rv n x=rv (ln ls k) (cd ls k) by rw [HX.out,HXE.out],show (n:Int)=(ln ls k:Nat) by rw [HX.out],word_step] at HR8
    rw [show rv (ln ls k) (cd ls k)=rv n x by rw [HX.out,HXE.out],show ((ln ls k:Nat):Int)=n by rw [HX.out]] at HR8
    clear HR g0 g1 g2 g3 g4 g5 n1 n2 n3 n4
    rename_i hSw
    clear hSw
    generalize ((wr.setCell ⟨gw,k*2,none⟩ (.int .u32 (rv n x:Nat))).setCell ⟨gw,k*2+1,none⟩ (.int .i64 (n:Nat))).drew=w8 at *
    have g0:=(HR8.out.c.cell 1).trans (cc_1 _ _ _ _)
    have g1:=(HR8.out.pl.cell n).trans (va_at 16 _ n (by omega))
    rw [show run_ (fp ls) ls k n=y by rw [HYE.out,HX.out,run_at _ HL0.out]] at g1
    have g2:=HR8.out.od.free y
    have g3:=(HR8.out.od.cell y).trans (va_at _ _ y hy)
    have e4:(y:Int)<many ls:=by omega
    have e5:(0:Int)≤y:=by omega
    go_wp2
    go_still_tail 9,(by kernel_rfl)
    change wpList _ _ _ _ _ w8.drew
    go_upto_region 10 with (fail)
    have HR9:=Lib.hid ((HR8.out.setO y (.int .i64 (k:Nat))).drew)
    rw [va_set] at HR9
    clear HR8 g0 g1 g2 g3 e4 e5
    generalize (w8.setCell ⟨go,y,none⟩ (.int .i64 (k:Nat))).drew=w9 at *
    have g1:=(HR9.out.cs.cell n).trans (va_at 16 _ n (by omega))
    have g2:=HR9.out.cs.free n
    rw [show run_ (fc ls) ls k n=x by rw [HXE.out,HX.out,run_at _ HL0.out];rfl] at g1
    go_upto_region 11 with (fail)
    have HR10:=Lib.hid (HR9.out.setK n (.int .i64 ((x+1:Nat):Int)))
    rw [ia_set 16 _ (run_ (fc ls) ls (k+1)) n (x+1) (fun i _=>by rw [run_step _ hkl HL0.out,HXE.out,HX.out,run_at _ HL0.out];rfl)] at HR10
    clear HR9 g1 g2
    rw [show ((x:Int)+1)=((x+1:Nat):Int) by omega]
    generalize w9.setCell ⟨pk,n,none⟩ (.int .i64 ((x+1:Nat):Int))=w10 at *
    have g1:=(HR10.out.pl.cell n).trans (va_at 16 _ n (by omega))
    have g2:=HR10.out.pl.free n
    rw [show run_ (fp ls) ls k n=y by rw [HYE.out,HX.out,run_at _ HL0.out]] at g1
    go_wp2
    have HR11:=HR10.out.setP n (.int .i64 ((y+1:Nat):Int))
    rw [ia_set 16 _ (run_ (fp ls) ls (k+1)) n (y+1) (fun i _=>by rw [run_step _ hkl HL0.out,HYE.out,HX.out,run_at _ HL0.out])] at HR11
    go_roundw
    case rel=>exact ⟨k+1,by omega,by go_num,_,by have:=ordered_step HF.out HL0.out;rw [←HYE.out] at this;exact this,by simpa using HR11⟩
    case measure=>simp [intOf];omega
  ·have hk':k=zs.length:=by omega
   subst hk'
   go_wp2
   go_end0
   have h1:=HR.out
   rw [←HL.out,word_all] at h1
   exact ⟨rfl,⟨HO.out,gw,go,F,h1.c,h1.wd,h1.od,by have:=HF.out;rwa [←HL.out] at this⟩,h1.touch⟩
end
end Go.Proofs.YthbbpooobaahiaaGreatDoor
