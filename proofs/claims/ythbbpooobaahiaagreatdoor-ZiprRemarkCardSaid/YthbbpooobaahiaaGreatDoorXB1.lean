/- Part 1. -/
import Derived.Below
import Derived.BigQuiet
import Derived.BigRegion
import Derived.Deep.AppendLies
import Derived.Deep.Cut
import Derived.Deep.Draws
import Derived.Deep.LoopGhost
import Derived.Deep.MidRow
import Derived.Deep.QuietTactic
import Derived.Deep.RegionHeld3
import Derived.Deep.RegionLawGrows
import Derived.Laws.AppendOwn
import Derived.Laws.AppendOwnNone
import Derived.Laws.BitsAllLaws
import Derived.Laws.OwnMore
import Derived.Laws.Rows
import Derived.Laws.Tables
import Derived.Lib.Hide
import Derived.Lib.Slices
import Derived.Lib.TrailingZeros
import Derived.OwnWalk
import Derived.Test.YthbbpooobaahiaaGreatDoorRows
import Derived.WalkKit
import Derived.WalkLawsBesides
import Derived.WalkSpells
namespace Go.Proofs.YthbbpooobaahiaaGreatDoor.Cu
set_option maxRecDepth 100000
section
open Go.RowKit
structure Touch (S:Nat→Prop) (w w':World):Prop where
 os:w'.os=w.os
 tape:w'.tape=w.tape
 output:w'.output=w.output
 size:w.heap.size≤w'.heap.size
 block:∀ k,k<w.heap.size→¬S k→w'.heap[k]? = w.heap[k]?
theorem Touch.refl (S:Nat→Prop) (w:World):Touch S w w:=⟨rfl,rfl,rfl,Nat.le_refl _,fun _ _ _=>rfl⟩
theorem Touch.trans' {S T:Nat→Prop} {a b c:World} (h:Touch S a b) (k:Touch T b c) (hT:∀ i,T i→i<a.heap.size→S i):Touch S a c:=
 ⟨k.os.trans h.os,k.tape.trans h.tape,k.output.trans h.output,Nat.le_trans h.size k.size,fun i hi hs=>(k.block i (Nat.lt_of_lt_of_le hi h.size) (fun ht=>hs (hT i ht hi))).trans (h.block i hi hs)⟩
theorem Touch.trans {S:Nat→Prop} {a b c:World} (h:Touch S a b) (k:Touch S b c):Touch S a c:=h.trans' k fun _ h _=>h
theorem Touch.alloc {S:Nat→Prop} {a w:World} (h:Touch S a w) (o:Obj):Touch S a (w.alloc o):=
 h.trans ⟨rfl,rfl,rfl,by simp,fun k hk _=>Below.heap_alloc _ _ _ hk⟩
theorem Touch.setCell {S:Nat→Prop} {a w:World} (h:Touch S a w) (p:Addr) (u:Value) (hp:S p.block∨a.heap.size≤p.block):Touch S a (w.setCell p u):=
 ⟨h.os,h.tape,h.output,Nat.le_trans h.size (by simp [World.setCell]),fun k hk hs=>(Below.heap_setCell _ _ _ _ (fun e=>by subst e;rcases hp with hp | hp;exact hs hp;omega)).trans (h.block k hk hs)⟩
theorem Touch.grown {S:Nat→Prop} {a w w':World} {row:Option Nat} (h:Touch S a w) (hg:w.grownBy w' row) (hr:∀ k,row=some k→S k∨a.heap.size≤k):Touch S a w':=
 ⟨hg.os.trans h.os,hg.tape.trans h.tape,hg.output.trans h.output,Nat.le_trans h.size hg.size,fun k hk hs=>
  (hg.block k (Nat.lt_of_lt_of_le hk h.size) (fun e=>by rcases hr k e.symm with hp | hp;exact hs hp;omega)).trans (h.block k hk hs)⟩
theorem Touch.below {S:Nat→Prop} {a b:World} {B:Nat} (h:Touch S a b) (hB:B≤a.heap.size) (hS:∀ k,S k→B≤k):Below B a b:=
 ⟨h.os,h.tape,h.output,h.size,fun k hk=>h.block k (by omega) fun s=>by have:=hS k s;omega⟩
theorem Touch.of_below {S:Nat→Prop} {a b:World} (h:Below a.heap.size a b):Touch S a b:=⟨h.os,h.tape,h.output,h.size,fun k hk _=>h.block k hk⟩
theorem below_drewN {B:Nat} {a w:World} (h:Below B a w) (q:Nat):Below B a (w.drewN q):=⟨h.os,h.tape,h.output,h.size,h.block⟩
def Bs (l:List Nat):Prop:=∀ x∈l,x<256
theorem Bs.at {a:List Nat} (ha:Bs a) (k:Nat):a.getD k 0<256:=by
 rw [List.getD_eq_getElem?_getD]
 cases h:a[k]? with
 | none=>simp
 | some x=>simpa using ha x (List.mem_of_getElem? h)
theorem Bs.take {a:List Nat} (ha:Bs a) (k:Nat):Bs (a.take k):=fun x h=>ha x (List.mem_of_mem_take h)
theorem Bs.drop {a:List Nat} (ha:Bs a) (k:Nat):Bs (a.drop k):=fun x h=>ha x (List.mem_of_mem_drop h)
theorem Bs.app {a b:List Nat} (ha:Bs a) (hb:Bs b):Bs (a++b):=fun x h=>by
 rcases List.mem_append.1 h with h | h
 ·exact ha x h
 ·exact hb x h
theorem Bs.nil:Bs []:=fun x h=>by cases h
def Src (w:World) (ao:Option Addr) (xs:List Nat):Prop:=
 xs=[]∨∃ b off,ao=some ⟨b,off,none⟩∧∀ j,j<xs.length→w.cell? ⟨b,off+j,none⟩=some (.int .u8 (xs.getD j 0:Nat))
theorem Src.below {w w':World} {ao:Option Addr} {xs:List Nat} (h:Src w ao xs) (hb:Below w.heap.size w w'):Src w' ao xs:=by
 rcases h with h | ⟨b,off,rfl,hc⟩
 ·exact .inl h
 ·exact .inr ⟨b,off,rfl,fun j hj=>by
   have:=hc j hj
   exact (hb.cell (World.block_lt_of_cell? w _ this)).trans this⟩
theorem Src.touch {S:Nat→Prop} {w w':World} {ao:Option Addr} {xs:List Nat} (h:Src w ao xs) (ht:Touch S w w') (hs:∀ b off,ao=some ⟨b,off,none⟩→xs≠[]→¬S b):Src w' ao xs:=by
 rcases h with h | ⟨b,off,rfl,hc⟩
 ·exact .inl h
 ·by_cases hx:xs=[]
  ·exact .inl hx
  ·refine .inr ⟨b,off,rfl,fun j hj=>?_⟩
   have h1:=hc j hj
   rw [←h1]
   exact World.cell?_of_block (ht.block b (World.block_lt_of_cell? w _ h1) (hs b off rfl hx))
structure Sl (w:World) (ao:Option Addr) (c:Nat) (xs:List Nat):Prop where
 src:Src w ao xs
 le:xs.length≤c
 big:c≤maxLen
 nil:ao=none→c=0
 bs:Bs xs
theorem Sl.below {w w':World} {ao:Option Addr} {c:Nat} {xs:List Nat} (h:Sl w ao c xs) (hb:Below w.heap.size w w'):Sl w' ao c xs:=⟨h.src.below hb,h.le,h.big,h.nil,h.bs⟩
theorem Sl.none_ (w:World):Sl w none 0 []:=⟨.inl rfl,Nat.le_refl _,by simp [maxLen],fun _=>rfl,Bs.nil⟩
theorem Sl.cut {w:World} {ao:Option Addr} {c:Nat} {xs:List Nat} (h:Sl w ao c xs) (at_ n:Nat) (hle:at_+n≤xs.length) :
  Sl w (if c=at_ then ao else ao.map (·.add (at_*1))) (c-at_) ((xs.drop at_).take n):=by
 have hl:((xs.drop at_).take n).length=n:=by rw [List.length_take,List.length_drop];omega
 have:=h.le
 have:=h.big
 refine ⟨?_,by rw [hl];omega,by omega,?_,(h.bs.drop _).take _⟩
 ·by_cases hn:n=0
  ·subst hn;exact .inl (by simp)
  ·rw [if_neg (by omega)]
   rcases h.src with h0 | ⟨b,off,rfl,hc⟩
   ·rw [h0] at hle;simp at hle;omega
   ·refine .inr ⟨b,off+at_,by simp [Addr.add],fun j hj=>?_⟩
    rw [hl] at hj
    rw [Nat.add_assoc,hc (at_+j) (by omega)]
    simp [List.getD,hj]
 ·intro e
  by_cases hc:c=at_
  ·omega
  ·rw [if_neg hc] at e
   have:ao=none:=by simpa using e
   have:=h.nil this
   omega
def u8s (l:List Nat):List Value:=l.map fun x:Nat=>Value.int .u8 (x:Int)
theorem u8s_len (l:List Nat):(u8s l).length=l.length:=by simp [u8s]
theorem u8s_one (l:List Nat):∀ u∈u8s l,u.oneCell'=true:=by
 intro u hu
 obtain ⟨_,_,rfl⟩:=List.mem_map.1 hu
 rfl
theorem u8s_at (l:List Nat) (j:Nat) (h:j<l.length):(u8s l)[j]? = some (.int .u8 ((l.getD j 0:Nat):Int)):=by simp [u8s,h,List.getD]
theorem u8s_app (a b:List Nat):u8s a++u8s b=u8s (a++b):=by simp [u8s]
theorem own_shape' {w:World} {base:Nat} {e:TypeId} {size:Nat} {v:Value} {n:Nat} {xs:List Value} (h:w.ownsRow base e size v n xs):∃ a c,v = .slice a n c:=by
 rcases h.2 with ⟨rfl,rfl⟩ | ⟨g,cap,cur,rfl,_⟩
 ·exact ⟨_,_,rfl⟩
 ·exact ⟨_,_,rfl⟩
theorem own_base {w:World} {base base':Nat} {e:TypeId} {size:Nat} {v:Value} {n:Nat} {xs:List Value} (h:w.ownsRow base e size v n xs) (hb:base'≤base):w.ownsRow base' e size v n xs:=by
 refine ⟨h.1,?_⟩
 rcases h.2 with h2 | ⟨g,cap,cur,hv,hg,r⟩
 ·exact .inl h2
 ·exact .inr ⟨g,cap,cur,hv,Nat.le_trans hb hg,r⟩
theorem ownsRow_touch {S:Nat→Prop} {w w':World} {base:Nat} {e:TypeId} {size:Nat} {v:Value} {n:Nat} {xs:List Value} (h:w.ownsRow base e size v n xs) (ht:Touch S w w') (hs:∀ k,v.ownBlock=some k→¬S k):w'.ownsRow base e size v n xs:=by
 refine ⟨h.1,?_⟩
 rcases h.2 with hn | ⟨g,cap,cur,rfl,hb,hgg,rest⟩
 ·exact .inl hn
 ·refine .inr ⟨g,cap,cur,rfl,hb,?_,rest⟩
  rw [ht.block g (Array.getElem?_eq_some_iff.1 hgg).1 (hs g (by simp [Value.ownBlock]))]
  exact hgg
theorem ownsRow_below {w w':World} {base:Nat} {e:TypeId} {size:Nat} {v:Value} {n:Nat} {xs:List Value} (h:w.ownsRow base e size v n xs) (hb:Below w.heap.size w w'):w'.ownsRow base e size v n xs:=
 ownsRow_touch h (Touch.of_below (S:=fun _=>False) hb) fun _ _ h=>h
theorem own_empty (w:World) (e size:Nat):(w.alloc (.cells #[] e)).ownsRow w.heap.size e size (.slice (some ⟨w.heap.size,0,none⟩) 0 0) 0 []:=
 World.ownsRow_made w #[] 0 (Nat.le_refl _) (Nat.zero_le _) (by simp)
structure Apd (w:World) (base e sz:Nat) (v:Value) (n:Nat) (xs:List Value) (v':Value) (w':World):Prop where
 own:w'.ownsRow base e sz v' n xs
 touch:Touch (fun k=>v.ownBlock=some k) w w'
 row:∀ k,v'.ownBlock=some k→v.ownBlock=some k∨w.heap.size≤k
theorem Apd.trans {a b c:World} {base e sz n m:Nat} {v1 v2 v3:Value} {xs ys:List Value} (h:Apd a base e sz v1 n xs v2 b) (k:Apd b base e sz v2 m ys v3 c):Apd a base e sz v1 m ys v3 c:=by
 refine ⟨k.own,h.touch.trans' k.touch fun i hi hlt=>?_,fun i hi=>?_⟩
 ·rcases h.row i hi with h1 | h1
  ·exact h1
  ·omega
 ·rcases k.row i hi with h1 | h1
  ·exact h.row i h1
  ·right;have:=h.touch.size;omega
theorem Apd.alloc {a b:World} {base e sz n:Nat} {v1 v2:Value} {xs:List Value} {o:Obj} (k:Apd (a.alloc o) base e sz v1 n xs v2 b):Apd a base e sz v1 n xs v2 b:=
 ⟨k.own,((Touch.refl _ a).alloc o).trans k.touch,fun i hi=>by
  rcases k.row i hi with h | h
  ·exact .inl h
  ·right;simp at h;omega⟩
theorem Apd.below {a b:World} {base e sz n:Nat} {v1 v2:Value} {xs ys:List Value} {m:Nat} (k:Apd a base e sz v1 n xs v2 b) (h:a.ownsRow base e sz v1 m ys) (hb:base≤a.heap.size):Below base a b:=
 k.touch.below hb fun i hi=>(h.lt i hi).1
def CellsAt (w:World) (sv:Value) (m:Nat) (ys:List Value):Prop:=
 (sv = .slice none 0 0∧m=0∧ys=[])∨∃ ad c,sv = .slice (some ad) m c∧∀ j u,ys[j]? = some u→w.cell? (ad.add j)=some u
structure AT (t e:Nat) (z:Value) (size bytes:Nat):Prop where
 hu:Tryz.prog.underlying t=some (.slice e)
 info:(Tryz.prog.info? e).map (fun i=>(i.zero,i.size,i.bytes))=some (some z,size,bytes)
 zs:z.cells.size=size
 pos:0<size
theorem run_append_x {t e:Nat} {z:Value} {size bytes:Nat} (T:AT t e z size bytes) (w:World) {base:Nat} {v sv:Value} {n m:Nat} {xs ys:List Value} (ty:TypeId) (hown:w.ownsRow base e size v n xs) (hs:CellsAt w sv m ys)
  (hyl:ys.length=m*size) (h1:∀ u∈ys,u.oneCell'=true) (hbase:base≤w.heap.size) (hl:n+m≤140737488355328) (hby:(n+m)*bytes≤140737488355328) :
  ∃ v' w',(Builtin.append_ #[t,t] ty #[v,sv]).run Tryz.prog w = .ok v' w'∧Apd w base e size v (n+m) (xs++ys) v' w':=by
 obtain ⟨i0,hi,hz0,hz1,hz2⟩:=info_parts T.info
 rcases hs with ⟨rfl,rfl,rfl⟩ | ⟨ad,c,rfl,hcell⟩
 ·refine ⟨v,w,run_append_owned_none w base t ty e i0 size T.hu hi v n xs hown,?_,Touch.refl _ _,fun k hk => .inl hk⟩
  simpa using hown
 ·rcases hown.2 with ⟨rfl,hn0⟩ | ⟨g,cap,cur,rfl,hbg,hh,hnc,hcm,hcs,htake⟩
  ·subst hn0
   have hx:xs=[]:=List.eq_nil_of_length_eq_zero (by rw [hown.1,Nat.zero_mul])
   subst hx
   obtain ⟨v',w',hr,ho,hg,_⟩:=run_append_own (P:=Tryz.prog) w w.heap.size t ty e i0 z size bytes T.hu hi hz0 hz1 hz2 T.zs T.pos (.slice none 0 0) 0 [] (World.ownsRow_nil _ _ _ _) ad m c ys hyl hcell h1 (by unfold maxLen;omega) hby (Nat.le_refl _)
   exact ⟨v',w',hr,own_base ho hbase,(Touch.refl _ w).grown hg fun k hk=>by simp [Value.ownBlock] at hk,fun k hk => .inr (ho.lt k hk).1⟩
  ·by_cases hroom:n+m≤cap
   ·obtain ⟨w',hr,ho,hg⟩:=run_append_fits (P:=Tryz.prog) w base t ty e i0 size T.hu hi hz1 g n cap xs hown ad m c ys hyl hcell h1 hroom
    exact ⟨_,w',hr,ho,(Touch.refl _ w).grown hg fun k hk => .inl (by cases hk;simp [Value.ownBlock]),fun k hk => .inl (by simpa [Value.ownBlock] using hk)⟩
   ·obtain ⟨v',w',hr,ho,hg⟩:=run_append_arg_grows (P:=Tryz.prog) w t ty e i0 z size bytes T.hu hi hz0 hz1 hz2 T.zs T.pos ⟨g,0,none⟩ n cap xs hown.1 (hown.cells (by simp [Value.ownBlock])) ad m c ys hyl hcell (by omega) (by unfold maxLen;omega) hby
    exact ⟨v',w',hr,own_base ho hbase,(Touch.refl _ w).grown hg (fun k hk=>by cases hk),fun k hk => .inr (ho.lt k hk).1⟩
theorem wpList_append_x {t e:Nat} {z:Value} {size bytes:Nat} (T:AT t e z size bytes) {w:World} {ops:Array Oper} {rest:List Oper} {o:Oper} {a:Act} {Q:Exit→Act→World→Prop} (hgd:o.guard=none) (s x:Operand)
  (ho:o.op = .call { callee := .builtin .append,args := #[s,x],argTypes := #[t,t] })
  (base:Nat) (v sv:Value) (n m:Nat) (xs ys:List Value) (hs:a.eval s=v) (hx:a.eval x=sv) (hown:w.ownsRow base e size v n xs) (hsrc:CellsAt w sv m ys)
  (hyl:ys.length=m*size) (h1:∀ u∈ys,u.oneCell'=true) (hbase:base≤w.heap.size) (hl:n+m≤140737488355328) (hby:(n+m)*bytes≤140737488355328)
  (h:∀ ao c w',Apd w base e size v (n+m) (xs++ys) (.slice ao (n+m) c) w'→wpList Tryz.prog ops Q rest (a.put o.dst (.slice ao (n+m) c)) w'):wpList Tryz.prog ops Q (o::rest) a w:=by
 refine wpList_plain hgd fun K hK=>?_
 obtain ⟨v',w',hrun,hA⟩:=run_append_x T w o.type hown hsrc hyl h1 hbase hl hby
 obtain ⟨ao,c,rfl⟩:=own_shape' hA.own
 unfold Oper.wp
 simp [execOp,ho,resolve,invoke,builtin,hs,hx,hrun,Result.andThen]
 exact hK _ _ (by simpa using h ao c w' hA)
theorem at22:AT 22 5 (.int .u8 0) 1 1:=⟨by kernel_rfl,by kernel_rfl,rfl,by omega⟩
theorem at37:AT 116 84 (.agg #[.int .i64 0,.int .i64 0,.slice none 0 0]) 3 40:=⟨by kernel_rfl,by kernel_rfl,rfl,by omega⟩
theorem Sl.cells {w:World} {ao:Option Addr} {c:Nat} {xs:List Nat} (h:Sl w ao c xs):CellsAt w (.slice ao xs.length c) xs.length (u8s xs):=by
 cases ao with
 | none=>
  have:=h.nil rfl
  have:=h.le
  have hx:xs=[]:=List.eq_nil_of_length_eq_zero (by omega)
  subst hx
  subst c
  exact .inl ⟨rfl,rfl,rfl⟩
 | some ad=>
  refine .inr ⟨ad,c,rfl,fun j u hu=>?_⟩
  have hj:j<xs.length:=by
   have:=(List.getElem?_eq_some_iff.1 hu).1
   rwa [u8s_len] at this
  rcases h.src with h0 | ⟨b,off,e,hc⟩
  ·rw [h0] at hj;simp at hj
  ·obtain rfl:=Option.some.inj e
   rw [Addr.add_lit,hc j hj,←hu,u8s_at xs j hj]
theorem own_sl {w:World} {base:Nat} {ao:Option Addr} {c:Nat} {xs:List Nat} (h:w.ownsRow base 5 1 (.slice ao xs.length c) xs.length (u8s xs)) (hb:Bs xs):Sl w ao c xs:=by
 rcases h.2 with ⟨e,h0⟩ | ⟨g,cap,cur,e,hbg,hh,hnc,hcm,hcs,htake⟩
 ·simp at e
  have hx:=List.eq_nil_of_length_eq_zero h0
  subst hx
  obtain ⟨rfl,_,rfl⟩:=e
  exact Sl.none_ w
 ·simp only [Value.slice.injEq] at e
  obtain ⟨rfl,_,rfl⟩:=e
  refine ⟨.inr ⟨g,0,rfl,fun j hj=>?_⟩,hnc,hcm,(fun e=>by cases e),hb⟩
  rw [Nat.zero_add,World.ownsRow.cellAt h j (by omega),u8s_at xs j hj]
def num:List Nat→Nat
 | []=>0
 | x::r=>x+256*num r
def le (n:Int):Nat→List Nat
 | 0=>[]
 | k+1=>le n k++[(n/256^k%256).toNat]
theorem le_len (n:Int) (k:Nat):(le n k).length=k:=by
 induction k with
 | zero=>rfl
 | succ k ih=>simp [le,ih]
theorem le_bs (n:Int) (k:Nat):Bs (le n k):=by
 induction k with
 | zero=>exact Bs.nil
 | succ k ih=>
  refine ih.app fun x h=>?_
  rw [List.mem_singleton] at h
  have:0≤n/256^k%256∧n/256^k%256<256:=⟨Int.emod_nonneg _ (by omega),Int.emod_lt_of_pos _ (by omega)⟩
  omega
theorem num_app (a b:List Nat):num (a++b)=num a+256^a.length*num b:=by
 induction a with
 | nil=>simp [num]
 | cons x r ih=>simp only [List.cons_append,num,ih,List.length_cons,Nat.pow_succ,Nat.mul_add];rw [Nat.mul_comm (256^r.length) 256,Nat.mul_assoc];omega
theorem num_lt {l:List Nat} (h:Bs l):num l<256^l.length:=by
 induction l with
 | nil=>simp [num]
 | cons x r ih=>
  have h1:=ih fun y hy=>h y (List.mem_cons_of_mem _ hy)
  have h2:=h x (List.mem_cons_self)
  simp only [num,List.length_cons,Nat.pow_succ]
  omega
theorem elem22:Tryz.prog.elem 22=5:=by simp [Program.elem,Tryz.underlying22]
theorem ht22:Tryz.prog.underlying 22=some (.slice (Tryz.prog.elem 22)):=by rw [elem22];exact Tryz.underlying22
theorem size5 (W:World):(sizeOf 5).run Tryz.prog W = .ok 1 W:=by
 obtain ⟨i0,hi,hz0,hz1,hz2⟩:=info_parts at22.info
 simp [sizeOf,typeInfo,hi,hz1]
def cutA (ao:Option Addr) (c a:Nat):Option Addr:=if c=a then ao else ao.map (·.add (a*1))
theorem cutA_zero (ao:Option Addr) (c:Nat):cutA ao c 0=ao:=by
 unfold cutA
 split
 ·rfl
 ·cases ao <;> simp [Addr.add]
theorem slice_lh (ao:Option Addr) (len c a b:Nat) (hab:a≤b) (hbc:b≤c) (W:World) :
  (Instr.slice 22 (.slice ao len c) (some (.int .i64 (a:Int))) (some (.int .i64 (b:Int))) none).run Tryz.prog W = .ok (.slice (cutA ao c a) (b-a) (c-a)) W:=by
 rw [run_slice_lh W 22 ao len c ht22 .i64 .i64 _ _ (by omega) (by omega) (by omega),elem22,size5]
 simp only [Result.andThen,sliced,Int.toNat_natCast,cutA]
theorem slice_l (ao:Option Addr) (len c a:Nat) (hab:a≤len) (W:World) :
  (Instr.slice 22 (.slice ao len c) (some (.int .i64 (a:Int))) none none).run Tryz.prog W = .ok (.slice (cutA ao c a) (len-a) (c-a)) W:=by
 rw [run_slice_l W 22 ao len c ht22 .i64 _ (by omega) (by omega),elem22,size5]
 simp only [Result.andThen,sliced,Int.toNat_natCast,cutA]
theorem slice_h (ao:Option Addr) (len c b:Nat) (hbc:b≤c) (W:World) :
  (Instr.slice 22 (.slice ao len c) none (some (.int .i64 (b:Int))) none).run Tryz.prog W = .ok (.slice ao b c) W:=by
 rw [run_slice_h W 22 ao len c ht22 .i64 _ (by omega) (by omega),elem22,size5]
 have:=cutA_zero ao c
 simp only [cutA] at this
 simp [Result.andThen,sliced]
 cases ao <;> simp [Addr.add]
theorem Sl.cut' {w:World} {ao:Option Addr} {c:Nat} {xs:List Nat} (h:Sl w ao c xs) (at_ n:Nat) (hle:at_+n≤xs.length):Sl w (cutA ao c at_) (c-at_) ((xs.drop at_).take n):=h.cut at_ n hle
theorem win_len {xs:List Nat} {at_ n:Nat} (h:at_+n≤xs.length):((xs.drop at_).take n).length=n:=by
 rw [List.length_take,List.length_drop];omega
set_option maxHeartbeats 400000 in
theorem within_ok (ao:Option Addr) (len c at_ k:Nat) (w:World) (hc:len≤c) (hm:c≤maxLen) (h:at_+k≤len) :
  Calls Tryz.prog 91 #[.slice ao len c,.int .i64 at_,.int .i64 k] w fun e w'=>e = .returned (.tuple #[.slice (cutA ao c at_) k (c-at_),.bool true])∧w=w':=by
 unfold maxLen at hm
 have hsl:=slice_lh ao len c at_ (at_+k) (by omega) (by omega)
 rw [show at_+k-at_=k from by omega,show ((at_+k:Nat):Int)=(at_:Int)+k from by omega] at hsl
 obtain ⟨A,hA⟩:∃ A,A=cutA ao c at_:=⟨_,rfl⟩
 rw [←hA] at hsl ⊢
 clear hA
 go_enter Tryz.func91,Tryz.ntmps91
 go_wp2
 all_goals first | (exfalso;omega) | (go_ret2;exact ⟨rfl,rfl⟩)
set_option maxHeartbeats 400000 in
theorem within_no (ao:Option Addr) (len c:Nat) (at_ k:Int) (w:World) (hm:len≤maxLen) (h:at_<0∨(len:Int)<at_∨k<0∨(len:Int)-at_<k) :
  Calls Tryz.prog 91 #[.slice ao len c,.int .i64 at_,.int .i64 k] w fun e w'=>e = .returned (.tuple #[.slice none 0 0,.bool false])∧w=w':=by
 unfold maxLen at hm
 by_cases h1:at_<0
 ·go_enter Tryz.func91,Tryz.ntmps91
  go_wp2
  all_goals first | (exfalso;omega) | (go_ret2;exact ⟨rfl,rfl⟩)
 ·by_cases h2:(len:Int)<at_
  ·go_enter Tryz.func91,Tryz.ntmps91
   go_wp2
   all_goals first | (exfalso;omega) | (go_ret2;exact ⟨rfl,rfl⟩)
  ·by_cases h3:k<0
   ·go_enter Tryz.func91,Tryz.ntmps91
    go_wp2
    all_goals first | (exfalso;omega) | (go_ret2;exact ⟨rfl,rfl⟩)
   ·have h4:(len:Int)-at_<k:=by omega
    go_enter Tryz.func91,Tryz.ntmps91
    go_wp2
    all_goals first | (exfalso;omega) | (go_ret2;exact ⟨rfl,rfl⟩)
end
end Go.Proofs.YthbbpooobaahiaaGreatDoor.Cu
namespace CrcPlain
set_option maxRecDepth 100000
def poly:BitVec 32:=0xEDB88320#32
def hv1 (x:BitVec 32):BitVec 32:=(x >>> 1) ^^^ (if x.getLsbD 0 then poly else 0#32)
theorem hv1_xor (x y:BitVec 32):hv1 (x ^^^ y)=hv1 x ^^^ hv1 y:=by
 unfold hv1
 rw [BitVec.ushiftRight_xor_distrib,BitVec.getLsbD_xor]
 cases hx:x.getLsbD 0 <;> cases hy:y.getLsbD 0 <;> simp
 ·ac_rfl
 ·ac_rfl
 ·rw [show x >>> 1 ^^^ poly ^^^ (y >>> 1 ^^^ poly)=x >>> 1 ^^^ y >>> 1 ^^^ (poly ^^^ poly) from by ac_rfl,BitVec.xor_self];simp
def hvs:Nat→BitVec 32→BitVec 32
 | 0,x=>x
 | n+1,x=>hvs n (hv1 x)
theorem hvs_xor (n:Nat) (x y:BitVec 32):hvs n (x ^^^ y)=hvs n x ^^^ hvs n y:=by
 induction n generalizing x y with
 | zero=>rfl
 | succ n ih=>rw [hvs,hvs,hvs,hv1_xor,ih]
theorem hvs_add (n m:Nat) (x:BitVec 32):hvs (n+m) x=hvs m (hvs n x):=by
 induction n generalizing x with
 | zero=>simp [hvs]
 | succ n ih=>rw [show n+1+m=(n+m)+1 from by omega,hvs,hvs,ih]
def feed (x:BitVec 32):List (BitVec 8)→BitVec 32
 | []=>x
 | b::r=>feed (hvs 8 (x ^^^ b.setWidth 32)) r
theorem feed_append (x:BitVec 32) (a b:List (BitVec 8)):feed x (a++b)=feed (feed x a) b:=by
 induction a generalizing x with
 | nil=>rfl
 | cons c r ih=>rw [List.cons_append,feed,feed,ih]
end CrcPlain
namespace CrcPlain
theorem hv1_shl (v:BitVec 32):hv1 ((v >>> 1) <<< 1)=v >>> 1:=by
 unfold hv1
 have h0:((v >>> 1) <<< 1).getLsbD 0=false:=by simp
 rw [h0]
 apply BitVec.eq_of_getLsbD_eq
 intro i hi
 simp only [BitVec.getLsbD_xor,BitVec.getLsbD_ushiftRight,BitVec.getLsbD_shiftLeft]
 by_cases h:1+i<32
 ·simp [h]
 ·have:i=31:=by omega
  subst this
  simp
end CrcPlain
namespace CrcPlain
end CrcPlain
namespace CrcPlain
end CrcPlain
namespace CrcPlain
theorem top_down (y:BitVec 32) (k:Nat) (hk:k<8):((y >>> 8) <<< (k+1)) >>> 1=(y >>> 8) <<< k:=by
 apply BitVec.eq_of_getLsbD_eq
 intro i hi
 simp only [BitVec.getLsbD_ushiftRight,BitVec.getLsbD_shiftLeft]
 by_cases h1:1+i<32
 ·have e:1+i-(k+1)=i-k:=by omega
  rw [e]
  by_cases h2:i<k
  ·simp [h2,show 1+i<k+1 by omega]
  ·simp [h1,h2,hi,show ¬1+i<k+1 by omega]
 ·have:i=31:=by omega
  subst this
  have:y.getLsbD (8+(31-k))=false:=BitVec.getLsbD_of_ge y _ (by omega)
  simp [this]
theorem top_even (y:BitVec 32) (k:Nat):((((y >>> 8) <<< (k+1)) >>> 1) <<< 1)=(y >>> 8) <<< (k+1):=by
 apply BitVec.eq_of_getLsbD_eq
 intro i hi
 simp only [BitVec.getLsbD_ushiftRight,BitVec.getLsbD_shiftLeft]
 cases i with
 | zero=>simp
 | succ i=>
  rw [show 1+(i+1-1)=i+1 from by omega]
  by_cases h2:i+1<k+1
  ·simp [h2]
  ·simp [h2,hi]
theorem top_steps (y:BitVec 32) (k:Nat) (hk:k≤8):hvs k ((y >>> 8) <<< k)=y >>> 8:=by
 induction k with
 | zero=>simp [hvs]
 | succ k ih=>
  rw [hvs,←top_even,hv1_shl,top_down y k (by omega)]
  exact ih (by omega)
theorem byte_split (y:BitVec 32):y=((y >>> 8) <<< 8) ^^^ (y &&& 255#32):=by
 apply BitVec.eq_of_getLsbD_eq
 intro i hi
 simp only [BitVec.getLsbD_xor,BitVec.getLsbD_ushiftRight,BitVec.getLsbD_shiftLeft,BitVec.getLsbD_and]
 have h255:(255#32).getLsbD i=decide (i<8):=by
  rw [BitVec.getLsbD_ofNat,show 255=2^8-1 from rfl,Nat.testBit_two_pow_sub_one]
  simp;omega
 rw [h255]
 by_cases h:i<8
 ·simp [h]
 ·simp [h,hi,show 8+(i-8)=i by omega]
theorem hvs_eight (y:BitVec 32):hvs 8 y=(y >>> 8) ^^^ hvs 8 (y &&& 255#32):=by
 conv=>lhs;rw [byte_split y]
 rw [hvs_xor,top_steps y 8 (Nat.le_refl _)]
theorem hvs_byte (x:BitVec 32) (c:Nat) (hc:c<256):hvs 8 (x ^^^ BitVec.ofNat 32 c)=(x >>> 8) ^^^ hvs 8 (BitVec.ofNat 32 (x.toNat%256 ^^^ c)):=by
 rw [hvs_eight]
 have hx:x.toNat%256<2^8:=Nat.mod_lt _ (by omega)
 have hb:x.toNat%256 ^^^ c<2^8:=Nat.xor_lt_two_pow hx (by omega)
 congr 1
 ·rw [BitVec.ushiftRight_xor_distrib]
  have:BitVec.ofNat 32 c >>> 8=0#32:=by
   apply BitVec.eq_of_toNat_eq
   rw [BitVec.toNat_ushiftRight,BitVec.toNat_ofNat,Nat.mod_eq_of_lt (show c<2^32 by omega),Nat.shiftRight_eq_div_pow]
   simp;omega
  rw [this,BitVec.xor_zero]
 ·congr 1
  apply BitVec.eq_of_toNat_eq
  rw [BitVec.toNat_and,BitVec.toNat_xor,BitVec.toNat_ofNat,BitVec.toNat_ofNat,BitVec.toNat_ofNat,Nat.mod_eq_of_lt (show c<2^32 by omega),Nat.mod_eq_of_lt (show 255<2^32 by omega),Nat.mod_eq_of_lt (show x.toNat%256 ^^^ c<2^32 by omega),Nat.and_two_pow_sub_one_eq_mod _ 8,show 256=2^8 from rfl,Nat.xor_mod_two_pow,Nat.mod_eq_of_lt (show c<2^8 by omega)]
def bv (xs:List Nat):List (BitVec 8):=xs.map (BitVec.ofNat 8)
theorem feed_snoc (x:BitVec 32) (xs:List Nat) (c:Nat) (hc:c<256):feed x (bv (xs++[c]))=hvs 8 (feed x (bv xs) ^^^ BitVec.ofNat 32 c):=by
 unfold bv
 rw [List.map_append,feed_append]
 have:(BitVec.ofNat 8 c).setWidth 32=BitVec.ofNat 32 c:=by
  apply BitVec.eq_of_toNat_eq
  rw [BitVec.toNat_setWidth,BitVec.toNat_ofNat,BitVec.toNat_ofNat]
  omega
 simp only [List.map_cons,List.map_nil,feed,this]
theorem take_next (xs:List Nat) (k:Nat) (h:k<xs.length):xs.take (k+1)=xs.take k++[xs.getD k 0]:=by
 rw [List.take_succ_eq_append_getElem h]
 simp [List.getD,h]
def updN (s:BitVec 32) (xs:List Nat):BitVec 32 := ~~~ (feed (~~~ s) (bv xs))
end CrcPlain
namespace Go.Proofs.YthbbpooobaahiaaGreatDoor.Cr
set_option maxRecDepth 100000
section
open Go.RowKit CrcPlain
theorem b_xor (x y:BitVec 32):bits BinOp.xor IntKind.u32 (x.toNat:Int) (y.toNat:Int)=((x ^^^ y).toNat:Int):=by
 rw [u32_xor_nat _ _ x.isLt y.isLt,BitVec.toNat_xor]
theorem b_poly (x:BitVec 32):bits BinOp.xor IntKind.u32 (x.toNat:Int) 3988292384=((x ^^^ poly).toNat:Int):=b_xor x poly
theorem b_one (x:BitVec 32):bits BinOp.and IntKind.u32 (x.toNat:Int) 1=if x.getLsbD 0 then 1 else 0:=by
 rw [show (1:Int)=((1:Nat):Int) from rfl,u32_and_nat _ _ x.isLt (by omega),nat_mask1,BitVec.getLsbD,Nat.testBit_zero]
 rcases Nat.mod_two_eq_zero_or_one x.toNat with h | h <;> simp [h]
theorem b_half (x:BitVec 32):Int.ofNat x.toNat/(2:Int)=Int.ofNat (x >>> 1).toNat:=by
 rw [BitVec.toNat_ushiftRight,Nat.shiftRight_eq_div_pow];simp
theorem ret_int {k:IntKind} {a b:Int} (h:a=b):Ending.returned (.int k a) = .returned (.int k b):=by rw [h]
theorem halve_any (x:BitVec 32) (w:World) :
  Calls Tryz.prog 113 #[.int .u32 (x.toNat:Int)] w fun e w'=>e = .returned (.int .u32 ((hv1 x).toNat:Int))∧w=w':=by
 have h1:=b_one x
 have hx:=x.isLt
 cases hb:x.getLsbD 0
 ·have HS:=Lib.hid (show ((x.toNat:Int)/2)=((hv1 x).toNat:Int) by unfold hv1;rw [hb];exact (b_half x).trans (by simp))
  rw [hb] at h1
  clear hb
  simp only [Bool.false_eq_true,if_false] at h1
  go_enter Tryz.func113,Tryz.ntmps113
  go_wp2
  go_ret
  exact ⟨ret_int HS.out,rfl⟩
 ·have HS:=Lib.hid (show bits BinOp.xor IntKind.u32 ((x.toNat:Int)/2) 3988292384=((hv1 x).toNat:Int) by unfold hv1;rw [hb];exact (congrArg (fun z=>bits BinOp.xor IntKind.u32 z 3988292384) (b_half x)).trans ((b_poly _).trans (by simp)))
  rw [hb] at h1
  clear hb
  simp only [if_true] at h1
  go_enter Tryz.func113,Tryz.ntmps113
  go_wp2
  go_ret
  exact ⟨ret_int HS.out,rfl⟩
def arr (n:Nat) (f:Nat→BitVec 32):Array Value:=((List.range n).map fun i=>Value.int .u32 ((f i).toNat:Int)).toArray
theorem arr_size (n:Nat) (f:Nat→BitVec 32):(arr n f).size=n:=by simp [arr]
theorem arr_at (n:Nat) (f:Nat→BitVec 32) (i:Nat) (h:i<n):(arr n f)[i]? = some (.int .u32 ((f i).toNat:Int)):=by simp [arr,h]
theorem arr_one (n:Nat) (f:Nat→BitVec 32):(arr n f).all (·.oneCell')=true:=by
 rw [Array.all_eq_true_iff_forall_mem]
 intro v hv
 simp [arr] at hv
 obtain ⟨i,_,rfl⟩:=hv
 rfl
theorem arr_congr {n:Nat} {f g:Nat→BitVec 32} (h:∀ i,i<n→f i=g i):arr n f=arr n g:=by
 unfold arr
 congr 1
 apply List.map_congr_left
 intro i hi
 rw [h i (List.mem_range.1 hi)]
theorem arr_zero (n:Nat):Array.replicate n (Value.int .u32 0)=arr n fun _=>0#32:=by
 apply Array.ext
 ·simp [arr]
 ·intro i h1 h2
  simp [arr]
theorem arr_set (n:Nat) (f:Nat→BitVec 32) (k:Nat) (x:BitVec 32):(arr n f).setIfInBounds k (.int .u32 (x.toNat:Int))=arr n fun i=>if i=k then x else f i:=by
 apply Array.ext
 ·simp [arr]
 ·intro i h1 h2
  rw [Array.getElem_setIfInBounds (by simpa [arr] using h2)]
  simp only [arr,List.getElem_toArray,List.getElem_map,List.getElem_range]
  by_cases h:k=i
  ·subst h;simp
  ·have h':¬i=k:=fun e=>h e.symm
   simp [h,h']
end
section
open Go.RowKit
structure Touch (S:Nat→Prop) (w w':World):Prop where
 os:w'.os=w.os
 tape:w'.tape=w.tape
 output:w'.output=w.output
 size:w.heap.size≤w'.heap.size
 block:∀ k,k<w.heap.size→¬S k→w'.heap[k]? = w.heap[k]?
theorem Touch.refl (S:Nat→Prop) (w:World):Touch S w w:=⟨rfl,rfl,rfl,Nat.le_refl _,fun _ _ _=>rfl⟩
theorem Touch.trans' {S T:Nat→Prop} {a b c:World} (h:Touch S a b) (k:Touch T b c) (hT:∀ i,T i→i<a.heap.size→S i):Touch S a c:=
 ⟨k.os.trans h.os,k.tape.trans h.tape,k.output.trans h.output,Nat.le_trans h.size k.size,fun i hi hs=>(k.block i (Nat.lt_of_lt_of_le hi h.size) (fun ht=>hs (hT i ht hi))).trans (h.block i hi hs)⟩
theorem Touch.trans {S:Nat→Prop} {a b c:World} (h:Touch S a b) (k:Touch S b c):Touch S a c:=h.trans' k fun _ h _=>h
theorem Touch.alloc {S:Nat→Prop} {a w:World} (h:Touch S a w) (o:Obj):Touch S a (w.alloc o):=
 h.trans ⟨rfl,rfl,rfl,by simp,fun k hk _=>Below.heap_alloc _ _ _ hk⟩
theorem Touch.setCell {S:Nat→Prop} {a w:World} (h:Touch S a w) (p:Addr) (u:Value) (hp:S p.block∨a.heap.size≤p.block):Touch S a (w.setCell p u):=
 ⟨h.os,h.tape,h.output,Nat.le_trans h.size (by simp [World.setCell]),fun k hk hs=>(Below.heap_setCell _ _ _ _ (fun e=>by subst e;rcases hp with hp | hp;exact hs hp;omega)).trans (h.block k hk hs)⟩
theorem Touch.setRow {S:Nat→Prop} {a w:World} (h:Touch S a w) (g:Nat) (cs:Array Value) (hp:S g∨a.heap.size≤g):Touch S a (w.setRow g cs):=
 ⟨h.os,h.tape,h.output,Nat.le_trans h.size (by simp),fun k hk hs=>(setRow_other w g k cs (fun e=>by subst e;rcases hp with hp | hp;exact hs hp;omega)).trans (h.block k hk hs)⟩
theorem Touch.below {S:Nat→Prop} {a b:World} {B:Nat} (h:Touch S a b) (hB:B≤a.heap.size) (hS:∀ k,S k→B≤k):Below B a b:=
 ⟨h.os,h.tape,h.output,h.size,fun k hk=>h.block k (by omega) fun s=>by have:=hS k s;omega⟩
def Blk (w:World) (g:Nat) (t:TypeId) (cs:Array Value):Prop:=w.heap[g]? = some (.cells cs t (0,0))
theorem Blk.lt {w:World} {g:Nat} {t:TypeId} {cs:Array Value} (h:Blk w g t cs):g<w.heap.size:=by
 rcases Nat.lt_or_ge g w.heap.size with hlt | hge
 ·exact hlt
 ·rw [Blk,Array.getElem?_eq_none hge] at h;cases h
theorem Blk.cell {w:World} {g:Nat} {t:TypeId} {cs:Array Value} (h:Blk w g t cs) (i:Nat):w.cell? ⟨g,i,none⟩=cs[i]? := cell_of_row w g i cs t (0,0) h
theorem Blk.free {w:World} {g:Nat} {t:TypeId} {cs:Array Value} (h:Blk w g t cs) (i:Nat):w.frozen? ⟨g,i,none⟩=false:=by
 rw [Blk] at h
 simp [World.frozen?,h]
theorem Blk.made (w:World) (t:TypeId) (cs:Array Value):Blk (w.alloc (.cells cs t)) w.heap.size t cs:=by
 show (w.heap.push _)[w.heap.size]? = _
 simp
theorem Blk.touch {S:Nat→Prop} {w w':World} {g:Nat} {t:TypeId} {cs:Array Value} (h:Blk w g t cs) (ht:Touch S w w') (hs:¬S g):Blk w' g t cs:=
 (ht.block g h.lt hs).trans h
theorem Blk.setCell {w:World} {g:Nat} {t:TypeId} {cs:Array Value} (h:Blk w g t cs) (i:Nat) (u:Value):Blk (w.setCell ⟨g,i,none⟩ u) g t (cs.setIfInBounds i u):=by
 rw [Blk] at h ⊢
 simp [World.setCell,Array.getElem?_modify,h]
theorem Blk.setRow {w:World} {g:Nat} {t:TypeId} {cs:Array Value} (h:Blk w g t cs) (u:Array Value):Blk (w.setRow g u) g t u:=setRow_heap w g cs u t (0,0) h
section
variable {P:Program} {ops:Array Oper} {rest:List Oper} {o:Oper} {a:Act} {w:World} {Q:Exit→Act→World→Prop}
theorem wpList_alloc_z (hgd:o.guard=none) (t:TypeId) (ho:o.op = .alloc t) (z:Array Value) (hz:∀ W,(zeroValue t).run P W = .ok (.agg z) W)
  (h:∀ W,Blk W w.heap.size t z→Touch (fun _=>False) w W→W.heap.size=w.heap.size+1→wpList P ops Q rest (a.put o.dst (.pointer (some ⟨w.heap.size,0,none⟩))) W):wpList P ops Q (o::rest) a w:=by
 have hr:(Instr.alloc t true (.tuple #[])).run P w = .ok (.pointer (some ⟨w.heap.size,0,none⟩)) (w.alloc (.cells z t)):=by
  simp [Instr.alloc,hz,newVar,newRow,Value.cells,go_sem]
 refine wpList_plain hgd fun K hK=>?_
 unfold Oper.wp execOp
 simp only [ho,Sem.run_bind,Sem.run_pure,hr,Result.andThen_ok]
 exact hK _ _ (h _ (Blk.made w t z) ((Touch.refl _ w).alloc _) (by simp))
theorem wpList_load_row (hgd:o.guard=none) (t:TypeId) (x:Operand) (ho:o.op = .load t x) (g:Nat) (hx:a.eval x = .pointer (some ⟨g,0,none⟩)) (ty:TypeId) (cs:Array Value) (hb:Blk w g ty cs)
  (n:Nat) (e:TypeId) (hu:P.underlying t=some (.array n e)) (hi:(P.info? t).map (·.size)=some cs.size)
  (h:wpList P ops Q rest (a.put o.dst (.agg cs)) w):wpList P ops Q (o::rest) a w:=by
 have hr:(Instr.loadAt t (.pointer (some ⟨g,0,none⟩))).run P w = .ok (.agg cs) w:=by
  simp only [Instr.loadAt,Instr.sureAddr,Sem.run_bind,Sem.run_pure,Result.andThen]
  exact run_loadVar_row w g ty t cs (0,0) _ hb hu rfl hi
 refine wpList_plain hgd fun K hK=>?_
 unfold Oper.wp execOp
 simp only [ho,hx,Sem.run_bind,Sem.run_pure,hr,Result.andThen_ok]
 exact hK _ _ h
theorem wpList_store_row (hgd:o.guard=none) (t:TypeId) (x y:Operand) (ho:o.op = .store t x y) (hd:o.dst=none) (g:Nat) (hx:a.eval x = .pointer (some ⟨g,0,none⟩)) (cells:Array Value) (hy:a.eval y = .agg cells) (ty:TypeId) (old:Array Value) (hb:Blk w g ty old)
  (hi:(P.info? t).map (·.size)=some cells.size) (hsz:old.size=cells.size) (h1:cells.all (·.oneCell')=true)
  (h:∀ W,Blk W g ty cells→Touch (fun k=>k=g) w W→W.heap.size=w.heap.size→wpList P ops Q rest a W):wpList P ops Q (o::rest) a w:=by
 have hr:(Instr.storeAt t (.pointer (some ⟨g,0,none⟩)) (.agg cells)).run P w = .ok () (w.setRow g cells):=by
  simp only [Instr.storeAt,Instr.sureAddr,Sem.run_bind,Sem.run_pure,Result.andThen]
  exact run_storeVar_row w g ty t old cells hb hi hsz h1
 have h':=h _ (hb.setRow cells) ((Touch.refl _ w).setRow g cells (.inl rfl)) (by simp)
 refine wpList_plain hgd fun K hK=>?_
 unfold Oper.wp execOp
 simp only [ho,hx,hy,Sem.run_bind,Sem.run_pure,hr,Result.andThen_ok]
 refine hK _ _ ?_
 rw [hd]
 exact h'
end
theorem results_cell {fn:Func} {p:Tmp} {ty:TypeId} (h:fn.results = #[.cell p ty]) (tmps:Array Value) (P:Program) (w:World) (g:Nat) (hg:tmps.getD p undef = .pointer (some ⟨g,0,none⟩)) (t:TypeId) (cs:Array Value) (hb:Blk w g t cs)
  (n:Nat) (e:TypeId) (hu:P.underlying ty=some (.array n e)) (hi:(P.info? ty).map (·.size)=some cs.size) :
  (results fn tmps).run P w = .ok (.agg cs) w:=by
 have hg':tmps[p]?.getD undef = .pointer (some ⟨g,0,none⟩):=by rw [←hg,Array.getD_eq_getD_getElem?]
 simp [results,h,hg',asAddr,run_loadVar_row w g t ty cs (0,0) _ hb hu rfl hi]
end
section
open Go.RowKit CrcPlain
theorem z41:∀ W,(zeroValue 155).run Tryz.prog W = .ok (.agg (Array.replicate 256 (.int .u32 0))) W:=fun _=>by kernel_rfl
theorem i41 {f:Nat→BitVec 32}:(Tryz.prog.info? 155).map (·.size)=some (arr 256 f).size:=by rw [arr_size];kernel_rfl
theorem z41':∀ W,(zeroValue 155).run Tryz.prog W = .ok (.agg (arr 256 fun _=>0#32)) W:=by rw [←arr_zero];exact z41
structure Two (t:TypeId) (w:World) (q r:Nat) (B C:Array Value) (wr:World):Prop where
 b:Blk wr q t B
 c:Blk wr r t C
 below:Below w.heap.size w wr
 lo:w.heap.size≤q∧q<r
theorem Two.setC {t:TypeId} {w wr:World} {q r:Nat} {B C:Array Value} (h:Two t w q r B C wr) (i:Nat) (u:Value):Two t w q r B (C.setIfInBounds i u) (wr.setCell ⟨r,i,none⟩ u):=by
 have ht:Touch (fun k=>k=r) wr (wr.setCell ⟨r,i,none⟩ u):=(Touch.refl _ _).setCell _ _ (.inl rfl)
 have:=h.lo
 exact ⟨h.b.touch ht (by omega),h.c.setCell i u,h.below.setCell (by show w.heap.size≤r;omega) _,h.lo⟩
theorem Two.setB {t:TypeId} {w wr W:World} {q r:Nat} {B B' C:Array Value} (h:Two t w q r B C wr) (hb:Blk W q t B') (ht:Touch (fun k=>k=q) wr W):Two t w q r B' C W:=by
 have:=h.lo
 exact ⟨hb,h.c.touch ht (by omega),h.below.trans (ht.below h.below.size fun k hk=>by omega),h.lo⟩
structure One (t:TypeId) (w:World) (p:Nat) (C:Array Value) (wr:World):Prop where
 c:Blk wr p t C
 below:Below w.heap.size w wr
 lo:w.heap.size≤p
theorem One.set {t:TypeId} {w wr W:World} {p:Nat} {C C':Array Value} (h:One t w p C wr) (hb:Blk W p t C') (ht:Touch (fun k=>k=p) wr W):One t w p C' W:=by
 have:=h.lo
 exact ⟨hb,h.below.trans (ht.below h.below.size fun k hk=>by omega),h.lo⟩
theorem b_not (x:BitVec 32):bits BinOp.xor IntKind.u32 (if IntKind.u32.signed=true then -1 else IntKind.u32.max) (x.toNat:Int)=((~~~ x).toNat:Int):=by
 have e:(if IntKind.u32.signed=true then (-1:Int) else IntKind.u32.max)=((BitVec.allOnes 32).toNat:Int):=rfl
 rw [e,b_xor,BitVec.allOnes_xor]
def bitv (k:Nat):Nat:=128/2^k
def inn (B:Nat) (x:BitVec 32) (f:Nat→BitVec 32):Nat→Nat→BitVec 32
 | 0=>f
 | j+1=>fun i=>if i=2*B*j+B then inn B x f j (2*B*j) ^^^ x else inn B x f j i
def st:Nat→Nat→BitVec 32
 | 0=>fun _=>0#32
 | k+1=>inn (bitv k) (hvs (k+1) 1#32) (st k) (2^k)
theorem inn_set (B:Nat) (x:BitVec 32) (f:Nat→BitVec 32) (j:Nat) :
  (arr 256 (inn B x f j)).setIfInBounds (2*B*j+B) (.int .u32 ((inn B x f j (2*B*j) ^^^ x).toNat:Int))=arr 256 (inn B x f (j+1)):=by
 rw [arr_set];rfl
theorem bitv_facts:∀ k,k<8→0<bitv k∧bitv k≤128∧bitv (k+1)=bitv k/2∧2*bitv k*2^k=256∧∀ j,j<2^k→2*bitv k*j+bitv k<256:=by decide +kernel
def tabF:Nat→BitVec 32:=fun i=>hvs 8 (BitVec.ofNat 32 i)
set_option maxRecDepth 10000 in
theorem st_tab:∀ i,i<256→st 8 i=tabF i:=by decide +kernel
set_option maxHeartbeats 1000000 in
theorem made_any (w:World) :
  Calls Tryz.prog 90 #[] w fun e w'=>e = .returned (.agg (arr 256 tabF))∧Below w.heap.size w w':=by
 go_enter Tryz.func90,Tryz.ntmps90
 go_upto_region 2 with (refine wpList_alloc_z rfl 155 rfl _ z41' ?_;intro W hb ht hs;have HS:=Lib.hid hs;clear hs)
 rename_i W1 hb1 ht1 HS1 K0 hK0
 obtain ⟨q,hq⟩:∃ q,q=w.heap.size:=⟨_,rfl⟩
 obtain ⟨r,hr⟩:∃ r,r=W1.heap.size:=⟨_,rfl⟩
 have H3:Hid (Two 155 w q r (arr 256 fun _=>0#32) (arr 256 (st 0)) W):=by
  subst hq hr
  have h1:=HS1.out
  exact Lib.hid ⟨hb1.touch ht (fun h=>h),hb,(ht1.trans ht).below (Nat.le_refl _) (fun _ h=>h.elim),by omega,by omega⟩
 rw [←hq,←hr]
 clear hq hr hb1 ht1 HS1 hb ht HS
 go_wp2
 go_loopw [2,3] (fun xv bv wr=>∃ k:Nat,k≤8∧bv = .int .i64 (bitv k)∧xv = .int .u32 ((hvs k 1#32).toNat:Int)∧Two 155 w q r (arr 256 fun _=>0#32) (arr 256 (st k)) wr) (fun _ bv _=>(intOf bv).toNat)
 case atStart=>exact ⟨0,by omega,rfl,rfl,H3.out⟩
 case round=>
  obtain ⟨k,hk,rfl,rfl,hrel⟩:=hrel
  have HR:=Lib.hid hrel
  clear hrel
  by_cases hlt:k<8
  ·obtain ⟨f1,f2,f3,f4,f5⟩:=bitv_facts k hlt
   obtain ⟨B,hB⟩:∃ B,B=bitv k:=⟨_,rfl⟩
   obtain ⟨x,hx⟩:∃ x,x=hvs (k+1) 1#32:=⟨_,rfl⟩
   have HN:Hid (st (k+1)=inn B x (st k) (2^k)):=Lib.hid (by rw [hB,hx];rfl)
   have HX:Hid (hv1 (hvs k 1#32)=x):=Lib.hid (by rw [hx,hvs_add k 1];rfl)
   rw [←hB] at f1 f2 f3 f4 f5 ⊢
   have F3:=Lib.hid f3
   have F4:=Lib.hid f4
   have F5:=Lib.hid f5
   have HXX:=Lib.hid hx
   clear hB f3 f4 f5 hx
   have hpos:(0:Int)<B:=by omega
   go_wp2_with (go_at_call 113;refine (halve_any (hvs k 1#32) _).mono ?_;rintro e w' ⟨rfl,rfl⟩;rw [HX.out])
   go_loopw [4] (fun vv wr=>∃ j:Nat,j≤2^k∧vv = .int .i64 ((2*B*j:Nat):Int)∧Two 155 w q r (arr 256 fun _=>0#32) (arr 256 (inn B x (st k) j)) wr) (fun vv _=>256-(intOf vv).toNat)
   case atStart=>exact ⟨0,Nat.zero_le _,rfl,HR.out⟩
   case round=>
    obtain ⟨j,hj,rfl,hrel⟩:=hrel
    have HI:=Lib.hid hrel
    clear hrel
    by_cases hlt2:j<2^k
    ·have g1:=F5.out j hlt2
     have HV:Hid (2*B*(j+1)=2*B*j+2*B):=Lib.hid (by rw [Nat.mul_add,Nat.mul_one])
     have HS:=Lib.hid (inn_set B x (st k) j)
     obtain ⟨v,hv⟩:∃ v,v=2*B*j:=⟨_,rfl⟩
     rw [←hv] at g1 HV HS ⊢
     clear hv
     have hc1:=(HI.out.c.cell v).trans (arr_at 256 _ v (by omega))
     have hc2:=(HI.out.c.cell (v+B)).trans (arr_at 256 _ (v+B) g1)
     have hf2:=HI.out.c.free (v+B)
     have hx1:=b_xor (inn B x (st k) j v) x
     have hv1:(v:Int)<256:=by omega
     have hsum:((v:Int)+(B:Int)).toNat=v+B:=by omega
     have hi1:(v:Int)+(B:Int)<256:=by omega
     have hi2:0≤(v:Int)+(B:Int):=by omega
     go_wp2
     go_roundw
     case rel=>
      refine ⟨j+1,Nat.succ_le_of_lt hlt2,by rw [HV.out];simp,?_⟩
      have:=HI.out.setC (v+B) (.int .u32 ((inn B x (st k) j v ^^^ x).toNat:Int))
      rw [HS.out] at this
      simpa using this
     case measure=>simp [intOf];omega
    ·have hj':j=2^k:=by have:=hj;generalize 2^k=z at *;omega
     have HI2:Hid (Two 155 w q r (arr 256 fun _=>0#32) (arr 256 (st (k+1))) wr):=Lib.hid (by rw [HN.out,←hj'];exact HI.out)
     have hv:2*B*j=256:=by rw [hj'];exact F4.out
     rw [hv]
     clear hv hj' hlt2 hj
     go_wp2
     go_roundw
     case rel=>exact ⟨k+1,by omega,by rw [F3.out];simp,by rw [HXX.out],HI2.out⟩
     case measure=>simp [intOf];omega
  ·have hk':k=8:=by omega
   subst hk'
   have hz:bitv 8=0:=rfl
   rw [hz]
   clear hz
   go_wp2_with (first
    | (refine wpList_load_row rfl 155 (.tmp 1) rfl r rfl 155 _ HR.out.c 256 47 Tryz.underlying155 i41 ?_)
    | (refine wpList_store_row rfl 155 (.tmp 0) (.tmp 26) rfl rfl q rfl _ rfl 155 _ HR.out.b i41 (by rw [arr_size,arr_size]) (arr_one 256 _) ?_;intro W4 hb4 ht4 hs4;have HB:=Lib.hid (HR.out.setB hb4 ht4);clear hb4 ht4 hs4))
   refine bodyPost_ret (results_cell Tryz.results90 _ _ _ q rfl 155 _ HB.out.b 256 47 Tryz.underlying155 i41) rfl ⟨?_,HB.out.below⟩
   rw [arr_congr st_tab]
def Bs (l:List Nat):Prop:=∀ x∈l,x<256
theorem Bs.at {a:List Nat} (ha:Bs a) (k:Nat):a.getD k 0<256:=by
 rw [List.getD_eq_getElem?_getD]
 cases h:a[k]? with
 | none=>simp
 | some x=>simpa using ha x (List.mem_of_getElem? h)
def Src (w:World) (ao:Option Addr) (xs:List Nat):Prop:=
 xs=[]∨∃ b off,ao=some ⟨b,off,none⟩∧∀ j,j<xs.length→w.cell? ⟨b,off+j,none⟩=some (.int .u8 (xs.getD j 0:Nat))
theorem Src.below {w w':World} {ao:Option Addr} {xs:List Nat} (h:Src w ao xs) (hb:Below w.heap.size w w'):Src w' ao xs:=by
 rcases h with h | ⟨b,off,rfl,hc⟩
 ·exact .inl h
 ·exact .inr ⟨b,off,rfl,fun j hj=>by
   have:=hc j hj
   exact (hb.cell (World.block_lt_of_cell? w _ this)).trans this⟩
theorem shift8 (x:BitVec 32):Int.ofNat x.toNat/(256:Int)=Int.ofNat (x >>> 8).toNat:=by
 rw [BitVec.toNat_ushiftRight,Nat.shiftRight_eq_div_pow];simp
set_option maxHeartbeats 1000000 in
theorem update_any (s:BitVec 32) (ao:Option Addr) (cap:Nat) (xs:List Nat) (w:World) (hl:xs.length≤1000000000000000) (hb:Bs xs) (hs:Src w ao xs) :
  Calls Tryz.prog 63 #[.int .u32 (s.toNat:Int),.slice ao xs.length cap] w fun e w'=>e = .returned (.int .u32 ((updN s xs).toNat:Int))∧Below w.heap.size w w':=by
 have HBS:=Lib.hid hb
 have HSR:=Lib.hid hs
 have hnot:=b_not s
 obtain ⟨z,hz⟩:∃ z,z = ~~~ s:=⟨_,rfl⟩
 rw [←hz] at hnot
 have HE:Hid (updN s xs = ~~~ (feed z (bv xs))):=Lib.hid (by rw [hz,updN])
 clear hb hs hz
 go_enter Tryz.func63,Tryz.ntmps63
 go_wp2_with (first
  | (go_at_call 90;refine (made_any _).mono ?_;rintro e w1 ⟨rfl,hb1⟩;have HB1:=Lib.hid hb1;clear hb1)
  | (refine wpList_alloc_z rfl 155 rfl _ z41' ?_;intro W2 hb ht hs;have HZ:Hid (One 155 w w1.heap.size (arr 256 fun _=>0#32) W2):=Lib.hid ⟨hb,HB1.out.trans ((ht.below (Nat.le_refl _) fun _ h=>h.elim).mono HB1.out.size),HB1.out.size⟩;obtain ⟨p,hp⟩:∃ p,p=w1.heap.size:=⟨_,rfl⟩;rw [←hp] at HZ;rw [←hp];clear hb ht hs hp;go_simp)
  | (refine wpList_store_row rfl 155 (.tmp 5) (.tmp 9) rfl rfl p rfl _ rfl 155 _ HZ.out.c i41 (by rw [arr_size,arr_size]) (arr_one 256 _) ?_;intro W3 hb3 ht3 hs3;have HM:Hid (One 155 w p (arr 256 tabF) W3):=Lib.hid (HZ.out.set hb3 ht3);clear hb3 ht3 hs3))
 clear HZ HB1 hnot
 have HS3:=Lib.hid (HSR.out.below HM.out.below)
 go_loop [6,14] (fun xv iv=>∃ k:Nat,k≤xs.length∧iv = .int .i64 k∧xv = .int .u32 ((feed z (bv (xs.take k))).toNat:Int)) (fun _ iv=>xs.length-(intOf iv).toNat)
 case atStart=>exact ⟨0,Nat.zero_le _,rfl,by simp [bv,feed]⟩
 case round=>
  obtain ⟨k,hk,rfl,rfl⟩:=hrel
  by_cases hlt:k<xs.length
  ·have hkk:(k:Int)<xs.length:=by omega
   rcases HS3.out with h | ⟨b,off,rfl,hc⟩
   ·rw [h] at hlt;simp at hlt
   ·have hcell:=hc k hlt
    have hcb:=HBS.out.at k
    have HN:Hid (feed z (bv (xs.take (k+1)))=hvs 8 (feed z (bv (xs.take k)) ^^^ BitVec.ofNat 32 (xs.getD k 0))):=Lib.hid (by rw [take_next xs k hlt,feed_snoc _ _ _ hcb])
    clear hc
    obtain ⟨c,hcc⟩:∃ c,c=xs.getD k 0:=⟨_,rfl⟩
    obtain ⟨x,hx⟩:∃ x,x=feed z (bv (xs.take k)):=⟨_,rfl⟩
    rw [←hcc] at hcell hcb HN
    rw [←hx] at HN ⊢
    clear hcc hx
    obtain ⟨i,hi⟩:∃ i,i=x.toNat%256 ^^^ c:=⟨_,rfl⟩
    have hm:x.toNat%256<2^8:=Nat.mod_lt _ (by omega)
    have hil:i<256:=by rw [hi];exact Nat.xor_lt_two_pow hm (by omega)
    have hix:bits BinOp.xor IntKind.u8 ((x.toNat:Int)%256) (c:Int)=(i:Int):=by
     rw [show (x.toNat:Int)%256=((x.toNat%256:Nat):Int) from by omega,u8_xor_nat _ _ (by omega) hcb,hi]
    have hcell2:=(HM.out.c.cell i).trans (arr_at 256 tabF i hil)
    have HF:Hid (bits BinOp.xor IntKind.u32 ((x.toNat:Int)/256) ((tabF i).toNat:Int)=((feed z (bv (xs.take (k+1)))).toNat:Int)):=Lib.hid (by
     rw [HN.out,hvs_byte x c hcb,←hi]
     exact (congrArg (fun q=>bits BinOp.xor IntKind.u32 q ((tabF i).toNat:Int)) (shift8 x)).trans (b_xor _ _))
    have hx32:=x.isLt
    clear hi hm
    go_wp2
    go_round
    case rel=>exact ⟨k+1,by omega,by go_num,by rw [HF.out]⟩
    case measure=>simp [intOf];omega
  ·have hk':k=xs.length:=by omega
   subst hk'
   rw [List.take_length]
   obtain ⟨y,hy⟩:∃ y,y=feed z (bv xs):=⟨_,rfl⟩
   have h1:=b_not y
   obtain ⟨v,hv⟩:∃ v,v = ~~~ y:=⟨_,rfl⟩
   have HV:Hid (updN s xs=v):=Lib.hid (by rw [hv,hy];exact HE.out)
   rw [←hy]
   rw [←hv] at h1
   clear hy hv
   go_wp2
   go_ret
   exact ⟨ret_int (by rw [HV.out]),HM.out.below⟩
theorem sum_any (ao:Option Addr) (cap:Nat) (xs:List Nat) (w:World) (hl:xs.length≤1000000000000000) (hb:Bs xs) (hs:Src w ao xs) :
  Calls Tryz.prog 40 #[.slice ao xs.length cap] w fun e w'=>e = .returned (.int .u32 ((updN 0#32 xs).toNat:Int))∧Below w.heap.size w w':=by
 have HP:=Lib.hid (update_any 0#32 ao cap xs w hl hb hs)
 obtain ⟨y,hy⟩:∃ y,y=updN 0#32 xs:=⟨_,rfl⟩
 rw [←hy] at HP ⊢
 clear hl hb hs hy
 go_enter Tryz.func40,Tryz.ntmps40
 go_wp2_with (go_at_call 63;refine HP.out.mono ?_;rintro e w1 ⟨rfl,hb1⟩)
 go_ret
 exact ⟨rfl,hb1⟩
end
end Go.Proofs.YthbbpooobaahiaaGreatDoor.Cr
namespace Go.Proofs.YthbbpooobaahiaaGreatDoor
set_option maxRecDepth 100000
def num:List Nat→Nat
 | []=>0
 | b::r=>b+256*num r
def Bs (l:List Nat):Prop:=∀ x∈l,x<256
theorem Bs.nil:Bs []:=fun x h=>by cases h
theorem Bs.app {a b:List Nat} (ha:Bs a) (hb:Bs b):Bs (a++b):=fun x h=>by
 rcases List.mem_append.1 h with h | h
 ·exact ha x h
 ·exact hb x h
theorem Bs.take {a:List Nat} (ha:Bs a) (k:Nat):Bs (a.take k):=fun x h=>ha x (List.mem_of_mem_take h)
theorem Bs.drop {a:List Nat} (ha:Bs a) (k:Nat):Bs (a.drop k):=fun x h=>ha x (List.mem_of_mem_drop h)
theorem Bs.at {a:List Nat} (ha:Bs a) (k:Nat):a.getD k 0<256:=by
 rw [List.getD_eq_getElem?_getD]
 cases h:a[k]? with
 | none=>simp
 | some x=>simpa using ha x (List.mem_of_getElem? h)
theorem num_app (a b:List Nat):num (a++b)=num a+256^a.length*num b:=by
 induction a with
 | nil=>simp [num]
 | cons x r ih=>
  simp only [List.cons_append,num,ih,List.length_cons,Nat.pow_succ,Nat.mul_add]
  rw [show 256^r.length*256*num b=256*(256^r.length*num b) from by rw [Nat.mul_comm (256^r.length) 256,Nat.mul_assoc]]
  omega
theorem num_one (x:Nat):num [x]=x:=by simp [num]
theorem num_lt {a:List Nat} (ha:Bs a):num a<256^a.length:=by
 induction a with
 | nil=>simp [num]
 | cons x r ih=>
  have h1:=ha x (by simp)
  have h2:=ih fun y hy=>ha y (by simp [hy])
  simp only [num,List.length_cons,Nat.pow_succ]
  omega
theorem num_drop {a:List Nat} (ha:Bs a) (k:Nat):num (a.drop k)=num a/256^k:=by
 induction k generalizing a with
 | zero=>simp
 | succ k ih=>
  cases a with
  | nil=>simp [num]
  | cons x r=>
   have h1:=ha x (by simp)
   have h2:Bs r:=fun y hy=>ha y (by simp [hy])
   rw [List.drop_succ_cons,ih h2,num,Nat.pow_succ,Nat.mul_comm (256^k) 256,←Nat.div_div_eq_div_mul]
   congr 1
   omega
theorem num_take {a:List Nat} (ha:Bs a) (k:Nat):num (a.take k)=num a%256^k:=by
 induction k generalizing a with
 | zero=>simp [num,Nat.mod_one]
 | succ k ih=>
  cases a with
  | nil=>simp [num]
  | cons x r=>
   have h1:=ha x (by simp)
   have h2:Bs r:=fun y hy=>ha y (by simp [hy])
   rw [List.take_succ_cons,num,ih h2,num,Nat.pow_succ,Nat.mul_comm (256^k) 256,Nat.mod_mul]
   have e1:(x+256*num r)%256=x:=by omega
   have e2:(x+256*num r)/256=num r:=by omega
   rw [e1,e2]
theorem pow256 (k:Nat):256^k=2^(8*k):=by rw [show (256:Nat)=2^8 from rfl,←Nat.pow_mul]
theorem peek_eq (X s n:Nat) (h:s+n≤40):X%2^40/2^s%2^n=X/2^s%2^n:=by
 apply Nat.eq_of_testBit_eq
 intro i
 simp only [Nat.testBit_mod_two_pow,Nat.testBit_div_two_pow]
 by_cases hi:i<n
 ·have:i+s<40:=by omega
  simp [hi,this]
 ·simp [hi]
theorem peek_num {a:List Nat} (ha:Bs a) (at_ n:Nat) (hn:n≤32) :
  num ((a.drop (at_/8)).take 5)/2^(at_%8)%2^n=num a/2^at_%2^n:=by
 rw [num_take (ha.drop _),num_drop ha,pow256,pow256,show 8*5=40 from rfl,peek_eq _ _ _ (by omega),Nat.div_div_eq_div_mul,←Nat.pow_add,show 8*(at_/8)+at_%8=at_ from by omega]
theorem or_add (i x y:Nat) (hx:x<2^i):x ||| (y*2^i)=x+y*2^i:=by
 rw [Nat.or_comm,Nat.add_comm]
 exact nat_join i _ _ (Nat.mul_mod_left _ _) hx
section
open Go.RowKit
theorem bytesFor_any (n:Int) (w:World) (h0:0≤n) (h1:n≤100000000000) :
  Calls Tryz.prog 164 #[.int .i64 n] w fun e w'=>e = .returned (.int .i64 ((n+7)/8))∧w=w':=by
 go_enter Tryz.func164,Tryz.ntmps164
 go_wp2
 go_ret
 exact ⟨rfl,rfl⟩
theorem isWidth_yes (n:Int) (w:World) (h0:0≤n) (h1:n≤32) :
  Calls Tryz.prog 161 #[.int .i64 n] w fun e w'=>e = .returned (.bool true)∧w=w':=by
 go_enter Tryz.func161,Tryz.ntmps161
 go_wp2
 go_ret
 exact ⟨by simp,rfl⟩
theorem isWidth_no (n:Int) (w:World) (h0:n<0∨32<n) :
  Calls Tryz.prog 161 #[.int .i64 n] w fun e w'=>e = .returned (.bool false)∧w=w':=by
 rcases h0 with h0 | h0
 ·go_enter Tryz.func161,Tryz.ntmps161
  go_wp2
  go_ret
  exact ⟨rfl,rfl⟩
 ·have:0≤n:=by omega
  have:decide (n≤32)=false:=by simp;omega
  go_enter Tryz.func161,Tryz.ntmps161
  go_wp2
  go_ret
  exact ⟨by simp,rfl⟩
theorem low_mask (v n:Nat) (hn:n≤32) (hv:v<18446744073709551616) :
  bits BinOp.and IntKind.u64 (v:Int) (IntKind.u64.wrap (IntKind.u64.wrap (2^n)-1))=((v%2^n:Nat):Int):=by
 have hp:2^n≤2^32:=Nat.pow_le_pow_right (by omega) hn
 have hq:0<2^n:=Nat.two_pow_pos n
 have e1:IntKind.u64.wrap ((2:Int)^n)=((2^n:Nat):Int):=by
  rw [IntKind.wrap_u64,show (2:Int)^n=((2^n:Nat):Int) from by simp]
  omega
 have e2:IntKind.u64.wrap (((2^n:Nat):Int)-1)=((2^n-1:Nat):Int):=by
  rw [IntKind.wrap_u64]
  omega
 rw [e1,e2,u64_and_nat _ _ hv (by omega),Nat.and_two_pow_sub_one_eq_mod]
theorem ret_int {k:IntKind} {a b:Int} (h:a=b):Ending.returned (.int k a) = .returned (.int k b):=by rw [h]
theorem lowest_any (v n:Nat) (w:World) (hn:n≤32) (hv:v<18446744073709551616) :
  Calls Tryz.prog 162 #[.int .u64 v,.int .i64 n] w fun e w'=>e = .returned (.int .u64 ((v%2^n:Nat):Int))∧w=w':=by
 have H:=Lib.hid (low_mask v n hn hv)
 clear hv
 go_enter Tryz.func162,Tryz.ntmps162
 go_wp2
 go_ret
 exact ⟨ret_int H.out,rfl⟩
theorem two_cell {w:World} {p:Nat} {a b:Value} {t:TypeId} (h:w.heap[p]? = some (.cells #[a,b] t (0,0))) :
  w.cell? ⟨p,0,none⟩=some a∧w.cell? ⟨p,1,none⟩=some b∧w.frozen? ⟨p,0,none⟩=false∧w.frozen? ⟨p,1,none⟩=false:=by
 simp [World.cell?,World.frozen?,h]
theorem at_walk (p:Nat) (n:Int) (w:World) (h1:w.cell? ⟨p,1,none⟩=some (.int .i64 n)) :
  Calls Tryz.prog 101 #[.pointer (some ⟨p,0,none⟩)] w fun e w'=>e = .returned (.int .i64 n)∧w=w':=by
 go_enter Tryz.func101,Tryz.ntmps101
 go_wp2
 go_ret
 exact ⟨rfl,rfl⟩
theorem left_walk (p:Nat) (n:Int) (ao:Option Addr) (len cap:Nat) (w:World) (hl:len≤1000000000) (hn:0≤n) (hn2:n≤8000000000)
  (h0:w.cell? ⟨p,0,none⟩=some (.slice ao len cap))
  (
  h1:w.cell? ⟨p,1,none⟩=some (.int .i64 n)) :
  Calls Tryz.prog 163 #[.pointer (some ⟨p,0,none⟩)] w fun e w'=>e = .returned (.int .i64 (8*len-n))∧∃ nq,w'=w.drewN nq:=by
 go_enter Tryz.func163,Tryz.ntmps163
 go_wp2
 go_quiet (fail)
 go_wp2
 go_ret
 exact ⟨ret_int (by omega),_,rfl⟩
set_option maxHeartbeats 400000 in
theorem skip_yes (p:Nat) (n at_:Int) (ao:Option Addr) (len cap:Nat) (w:World) (hl:len≤1000000000) (ha:0≤at_) (hn:0≤n) (hn2:n≤8*len-at_)
  (
  h0:w.cell? ⟨p,0,none⟩=some (.slice ao len cap)) (h1:w.cell? ⟨p,1,none⟩=some (.int .i64 at_)) (f1:w.frozen? ⟨p,1,none⟩=false) :
  Calls Tryz.prog 148 #[.pointer (some ⟨p,0,none⟩),.int .i64 n] w fun e w'=>e = .returned (.bool true)∧∃ nq,w'=(w.drewN nq).setCell ⟨p,1,none⟩ (.int .i64 (at_+n)):=by
 go_enter Tryz.func148,Tryz.ntmps148
 go_wp2_with (go_at_call 163;refine (left_walk p at_ ao len cap _ hl ha (by omega) h0 h1).mono ?_;rintro e w' ⟨rfl,nq,rfl⟩)
 go_ret
 exact ⟨rfl,_,rfl⟩
theorem skip_no (p:Nat) (n at_:Int) (ao:Option Addr) (len cap:Nat) (w:World) (hl:len≤1000000000) (ha:0≤at_) (ha2:at_≤8*len) (hn:n<0∨8*len-at_<n)
  (
  h0:w.cell? ⟨p,0,none⟩=some (.slice ao len cap)) (h1:w.cell? ⟨p,1,none⟩=some (.int .i64 at_)) :
  Calls Tryz.prog 148 #[.pointer (some ⟨p,0,none⟩),.int .i64 n] w fun e w'=>e = .returned (.bool false)∧∃ nq,w'=w.drewN nq:=by
 rcases hn with hn | hn
 ·go_enter Tryz.func148,Tryz.ntmps148
  go_wp2
  go_ret
  exact ⟨rfl,0,rfl⟩
 ·have hn0:0≤n:=by omega
  go_enter Tryz.func148,Tryz.ntmps148
  go_wp2_with (go_at_call 163;refine (left_walk p at_ ao len cap _ hl ha (by omega) h0 h1).mono ?_;rintro e w' ⟨rfl,nq,rfl⟩)
  go_ret
  exact ⟨rfl,_,rfl⟩
theorem peek_no (p:Nat) (n:Int) (w:World) (hn:n<0∨32<n) :
  Calls Tryz.prog 147 #[.pointer (some ⟨p,0,none⟩),.int .i64 n] w fun e w'=>e = .returned (.int .u32 0)∧w=w':=by
 go_enter Tryz.func147,Tryz.ntmps147
 go_wp2_with (go_at_call 161;refine (isWidth_no n _ hn).mono ?_;rintro e w' ⟨rfl,rfl⟩)
 go_ret
 exact ⟨rfl,rfl⟩
def byt (bs:List Nat) (j:Nat):Nat:=bs.getD j 0
def pv (bs:List Nat) (f k:Nat):Nat:=num ((bs.drop f).take k)
theorem pv_lt {bs:List Nat} (hb:Bs bs) (f k:Nat) (hk:k≤5):pv bs f k<1099511627776:=by
 have h:=num_lt ((hb.drop f).take k)
 have h2:256^((bs.drop f).take k).length≤256^5:=Nat.pow_le_pow_right (by omega) (by rw [List.length_take];omega)
 have:(256:Nat)^5=1099511627776:=rfl
 unfold pv;omega
theorem pv_step {bs:List Nat} (hb:Bs bs) (f k:Nat) (hk:k<5) (hl:f+k<bs.length) :
  bits BinOp.or IntKind.u64 (pv bs f k:Int) (IntKind.u64.wrap (IntKind.u64.wrap (byt bs (f+k):Int)*2^(8*k)))=((pv bs f (k+1):Nat):Int):=by
 have hx:=hb.at (f+k)
 unfold byt
 have e1:pv bs f (k+1)=pv bs f k+bs.getD (f+k) 0*2^(8*k):=by
  unfold pv
  have hlk:k<(bs.drop f).length:=by rw [List.length_drop];omega
  rw [List.take_succ_eq_append_getElem hlk,num_app,num_one,List.length_take,Nat.min_eq_left (by omega),pow256,Nat.mul_comm]
  congr 2
  simp [List.getD,hl]
 have h1:=pv_lt hb f (k+1) (by omega)
 have h2:pv bs f k<2^(8*k):=by
  have h:=num_lt ((hb.drop f).take k)
  rw [pow256,List.length_take,Nat.min_eq_left (by rw [List.length_drop];omega)] at h
  exact h
 generalize bs.getD (f+k) 0=x at *
 have e0:IntKind.u64.wrap (x:Int)=(x:Int):=by rw [IntKind.wrap_u64];omega
 rw [e0]
 have e2:IntKind.u64.wrap ((x:Int)*2^(8*k))=((x*2^(8*k):Nat):Int):=by
  rw [IntKind.wrap_u64]
  rw [show (x:Int)*2^(8*k)=((x*2^(8*k):Nat):Int) from by simp]
  omega
 rw [e2,u64_or_nat _ _ (by omega) (by omega),or_add _ _ _ h2,e1]
theorem peek_end {bs:List Nat} {len:Nat} (hb:Bs bs) (hl:bs.length=len) (at_ n:Nat) (h:len-at_/8≤5) (hn:n≤32) :
  pv bs (at_/8) (len-at_/8)/2^(at_%8)%2^n=num bs/2^at_%2^n:=by
 rw [←peek_num hb at_ n hn]
 unfold pv
 rw [List.take_of_length_le (by rw [List.length_drop];omega),List.take_of_length_le (by rw [List.length_drop];omega)]
theorem lowest_int (v:Int) (V n:Nat) (w:World) (hv:v=(V:Int)) (hn:n≤32) (hV:V<18446744073709551616) :
  Calls Tryz.prog 162 #[.int .u64 v,.int .i64 n] w fun e w'=>e = .returned (.int .u64 ((V%2^n:Nat):Int))∧w=w':=by
 rw [hv];exact lowest_any V n w hn hV
theorem wrap_low (V n:Nat) (hn:n≤32):IntKind.u32.wrap ((V%2^n:Nat):Int)=((V%2^n:Nat):Int):=by
 have hp:2^n≤2^32:=Nat.pow_le_pow_right (by omega) hn
 have hq:=Nat.mod_lt V (Nat.two_pow_pos n)
 rw [IntKind.wrap_u32']
 omega
set_option maxHeartbeats 800000 in
theorem peek_yes (p g at_ n:Nat) (len cap:Nat) (bs:List Nat) (w:World) (hl:len≤1000000000) (hlc:len≤cap) (hbl:bs.length=len) (hb:Bs bs) (ha:at_≤8*len) (hn:n≤32)
  (h0:w.cell? ⟨p,0,none⟩=some (.slice (some ⟨g,0,none⟩) len cap)) (h1:w.cell? ⟨p,1,none⟩=some (.int .i64 at_))
  (
  hc:∀ j,j<len→w.cell? ⟨g,j,none⟩=some (.int .u8 (byt bs j:Int))) :
  Calls Tryz.prog 147 #[.pointer (some ⟨p,0,none⟩),.int .i64 n] w fun e w'=>e = .returned (.int .u32 ((num bs/2^at_%2^n:Nat):Int))∧w=w':=by
 have hfl:at_/8≤len:=by omega
 have HB:=Lib.hid hb
 have HBL:=Lib.hid hbl
 have HC:=Lib.hid hc
 clear hc hbl hb
 by_cases hcase:at_/8+5≤len
 ·have hcc:¬cap=at_/8:=by omega
  go_enter Tryz.func147,Tryz.ntmps147
  go_wp2_with (go_at_call 161;refine (isWidth_yes n _ (by omega) (by omega)).mono ?_;rintro e w' ⟨rfl,rfl⟩)
  go_loop [7,8,9,34] (fun v _ _ i=>∃ k:Nat,k≤5∧i = .int .i64 k∧v = .int .u64 (pv bs (at_/8) k:Nat)) (fun _ _ _ i=>5-(intOf i).toNat)
  case atStart=>exact ⟨0,Nat.zero_le _,rfl,by simp [pv,num]⟩
  case round=>
   obtain ⟨k,hk,rfl,rfl⟩:=hrel
   have hpl:=pv_lt HB.out (at_/8) k (by omega)
   have hpd:pv bs (at_/8) k/2^(at_%8)≤pv bs (at_/8) k:=Nat.div_le_self _ _
   by_cases hlt:k<5
   ·have hcell:=HC.out (at_/8+k) (by omega)
    have hkk:(k:Int)≤5:=by omega
    go_wp2
    go_round
    case rel=>
     refine ⟨k+1,by omega,by go_num,?_⟩
     have hs:=pv_step HB.out (at_/8) k (by omega) (by have:=HBL.out;omega)
     rw [←hs]
    case measure=>simp [intOf];omega
   ·have HL:=Lib.hid (show pv bs (at_/8) k/2^(at_%8)%2^n=num bs/2^at_%2^n from by rw [show k=5 from by omega];exact peek_num HB.out at_ n hn)
    have hpu:pv bs (at_/8) k/2^(at_%8)<18446744073709551616:=by omega
    have HPU:=Lib.hid hpu
    clear hpu
    go_wp2_with (go_at_call 162;refine (lowest_int _ (pv bs (at_/8) k/2^(at_%8)) n _ (by simp) hn HPU.out).mono ?_;rintro e w' ⟨rfl,rfl⟩)
    go_ret
    refine ⟨ret_int ?_,rfl⟩
    rw [←HL.out]
    exact wrap_low _ _ hn
 ·by_cases hcc:cap=at_/8
  ·go_enter Tryz.func147,Tryz.ntmps147
   go_wp2_with (go_at_call 161;refine (isWidth_yes n _ (by omega) (by omega)).mono ?_;rintro e w' ⟨rfl,rfl⟩)
   go_loop [7,8,9,34] (fun v _ _ i=>∃ k:Nat,k≤(len-at_/8)∧i = .int .i64 k∧v = .int .u64 (pv bs (at_/8) k:Nat)) (fun _ _ _ i=>(len-at_/8)-(intOf i).toNat)
   case atStart=>exact ⟨0,Nat.zero_le _,rfl,by simp [pv,num]⟩
   case round=>
    obtain ⟨k,hk,rfl,rfl⟩:=hrel
    have hpl:=pv_lt HB.out (at_/8) k (by omega)
    have hpd:pv bs (at_/8) k/2^(at_%8)≤pv bs (at_/8) k:=Nat.div_le_self _ _
    by_cases hlt:k<(len-at_/8)
    ·exact absurd hlt (by omega)
    ·have HL:=Lib.hid (show pv bs (at_/8) k/2^(at_%8)%2^n=num bs/2^at_%2^n from by rw [show k=len-at_/8 from by omega];exact peek_end HB.out HBL.out at_ n (by omega) hn)
     have hpu:pv bs (at_/8) k/2^(at_%8)<18446744073709551616:=by omega
     have HPU:=Lib.hid hpu
     clear hpu
     go_wp2_with (go_at_call 162;refine (lowest_int _ (pv bs (at_/8) k/2^(at_%8)) n _ (by simp) hn HPU.out).mono ?_;rintro e w' ⟨rfl,rfl⟩)
     go_ret
     refine ⟨ret_int ?_,rfl⟩
     rw [←HL.out]
     exact wrap_low _ _ hn
  ·go_enter Tryz.func147,Tryz.ntmps147
   go_wp2_with (go_at_call 161;refine (isWidth_yes n _ (by omega) (by omega)).mono ?_;rintro e w' ⟨rfl,rfl⟩)
   go_loop [7,8,9,34] (fun v _ _ i=>∃ k:Nat,k≤(len-at_/8)∧i = .int .i64 k∧v = .int .u64 (pv bs (at_/8) k:Nat)) (fun _ _ _ i=>(len-at_/8)-(intOf i).toNat)
   case atStart=>exact ⟨0,Nat.zero_le _,rfl,by simp [pv,num]⟩
   case round=>
    obtain ⟨k,hk,rfl,rfl⟩:=hrel
    have hpl:=pv_lt HB.out (at_/8) k (by omega)
    have hpd:pv bs (at_/8) k/2^(at_%8)≤pv bs (at_/8) k:=Nat.div_le_self _ _
    by_cases hlt:k<(len-at_/8)
    ·have hcell:=HC.out (at_/8+k) (by omega)
     have hkk:(k:Int)≤5:=by omega
     go_wp2
     go_round
     case rel=>
      refine ⟨k+1,by omega,by go_num,?_⟩
      have hs:=pv_step HB.out (at_/8) k (by omega) (by have:=HBL.out;omega)
      rw [←hs]
     case measure=>simp [intOf];omega
    ·have HL:=Lib.hid (show pv bs (at_/8) k/2^(at_%8)%2^n=num bs/2^at_%2^n from by rw [show k=len-at_/8 from by omega];exact peek_end HB.out HBL.out at_ n (by omega) hn)
     have hpu:pv bs (at_/8) k/2^(at_%8)<18446744073709551616:=by omega
     have HPU:=Lib.hid hpu
     clear hpu
     go_wp2_with (go_at_call 162;refine (lowest_int _ (pv bs (at_/8) k/2^(at_%8)) n _ (by simp) hn HPU.out).mono ?_;rintro e w' ⟨rfl,rfl⟩)
     go_ret
     refine ⟨ret_int ?_,rfl⟩
     rw [←HL.out]
     exact wrap_low _ _ hn
end
end Go.Proofs.YthbbpooobaahiaaGreatDoor
