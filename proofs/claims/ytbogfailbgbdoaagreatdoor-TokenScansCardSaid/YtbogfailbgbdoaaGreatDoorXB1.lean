/- Part 1. -/
import Derived.Below
import Derived.BigQuiet
import Derived.Deep.AppendLies
import Derived.Deep.Draws
import Derived.Deep.LoopGhost
import Derived.Deep.MidRow
import Derived.Deep.QuietTactic
import Derived.Deep.RegionLawGrows
import Derived.Laws.AppendOwn
import Derived.Laws.AppendOwnNone
import Derived.Laws.OwnMore
import Derived.Laws.Rows
import Derived.Lib.DecodeN
import Derived.Lib.Hide
import Derived.Lib.Slices
import Derived.LoopTactic
import Derived.OwnWalk
import Derived.Shelf.Slices.Clone
import Derived.Shelf.Small.Utf8
import Derived.Shelf.Spec.DecodeRune
import Derived.Shelf.Utf8.AppendRunePlain
import Derived.Test.YtbogfailbgbdoaaGreatDoorChecked
import Derived.Test.YtbogfailbgbdoaaGreatDoorRows
import Derived.WalkKit
set_option linter.unusedVariables false
set_option linter.unusedSimpArgs false
namespace Go.Proofs.YtbogfailbgbdoaaGreatDoor
set_option maxRecDepth 100000
section
open Go.RowKit
theorem ret_int {k:IntKind} {a b:Int} (h:a=b):Ending.returned (.int k a) = .returned (.int k b):=by rw [h]
structure Touch (S:Nat→Prop) (w w':World):Prop where
 os:w'.os=w.os
 tape:w'.tape=w.tape
 output:w'.output=w.output
 size:w.heap.size≤w'.heap.size
 block:∀ k,k<w.heap.size→¬S k→w'.heap[k]? = w.heap[k]?
theorem Touch.refl (S:Nat→Prop) (w:World):Touch S w w:=⟨rfl,rfl,rfl,Nat.le_refl _,fun _ _ _=>rfl⟩
theorem Touch.trans' {S T:Nat→Prop} {a b c:World} (h:Touch S a b) (k:Touch T b c) (hT:∀ i,T i→i<a.heap.size→S i):Touch S a c:=
 ⟨k.os.trans h.os,k.tape.trans h.tape,k.output.trans h.output,Nat.le_trans h.size k.size,fun i hi hs=>(k.block i (Nat.lt_of_lt_of_le hi h.size) (fun ht=>hs (hT i ht hi))).trans (h.block i hi hs)⟩
theorem Touch.trans {S:Nat→Prop} {a b c:World} (h:Touch S a b) (k:Touch S b c):Touch S a c:=h.trans' k fun _ h _=>h
theorem Touch.mono {S T:Nat→Prop} {a b:World} (h:Touch S a b) (hT:∀ i,S i→T i):Touch T a b:=
 ⟨h.os,h.tape,h.output,h.size,fun i hi hs=>h.block i hi fun s=>hs (hT i s)⟩
theorem Touch.drewN {S:Nat→Prop} {a w:World} (h:Touch S a w) (n:Nat):Touch S a (w.drewN n):=⟨h.os,h.tape,h.output,h.size,h.block⟩
theorem Touch.drew {S:Nat→Prop} {a w:World} (h:Touch S a w):Touch S a w.drew:=⟨h.os,h.tape,h.output,h.size,h.block⟩
theorem Touch.alloc {S:Nat→Prop} {a w:World} (h:Touch S a w) (o:Obj):Touch S a (w.alloc o):=
 h.trans ⟨rfl,rfl,rfl,by simp,fun k hk _=>Below.heap_alloc _ _ _ hk⟩
theorem Touch.setCell {S:Nat→Prop} {a w:World} (h:Touch S a w) (p:Addr) (u:Value) (hp:S p.block∨a.heap.size≤p.block):Touch S a (w.setCell p u):=
 ⟨h.os,h.tape,h.output,Nat.le_trans h.size (by simp [World.setCell]),fun k hk hs=>(Below.heap_setCell _ _ _ _ (fun e=>by subst e;rcases hp with hp | hp;exact hs hp;omega)).trans (h.block k hk hs)⟩
theorem Touch.grown {S:Nat→Prop} {a w w':World} {row:Option Nat} (h:Touch S a w) (hg:w.grownBy w' row) (hr:∀ k,row=some k→S k∨a.heap.size≤k):Touch S a w':=
 ⟨hg.os.trans h.os,hg.tape.trans h.tape,hg.output.trans h.output,Nat.le_trans h.size hg.size,fun k hk hs=>
  (hg.block k (Nat.lt_of_lt_of_le hk h.size) (fun e=>by rcases hr k e.symm with hp | hp;exact hs hp;omega)).trans (h.block k hk hs)⟩
theorem Touch.below {S:Nat→Prop} {a b:World} {B:Nat} (h:Touch S a b) (hB:B≤a.heap.size) (hS:∀ k,S k→B≤k):Below B a b:=
 ⟨h.os,h.tape,h.output,h.size,fun k hk=>h.block k (by omega) fun s=>by have:=hS k s;omega⟩
theorem Touch.of_below {S:Nat→Prop} {a b:World} (h:Below a.heap.size a b):Touch S a b:=⟨h.os,h.tape,h.output,h.size,fun k hk _=>h.block k hk⟩
theorem Touch.none_below {a b:World} (h:Touch (fun _=>False) a b):Below a.heap.size a b:=h.below (Nat.le_refl _) fun _ h=>h.elim
theorem below_drewN {B:Nat} {a w:World} (h:Below B a w) (q:Nat):Below B a (w.drewN q):=⟨h.os,h.tape,h.output,h.size,h.block⟩
def Bs (l:List Nat):Prop:=∀ x∈l,x<256
theorem Bs.at {a:List Nat} (ha:Bs a) (k:Nat):a.getD k 0<256:=by
 rw [List.getD_eq_getElem?_getD]
 cases h:a[k]? with
 | none=>simp
 | some x=>simpa using ha x (List.mem_of_getElem? h)
theorem Bs.take {a:List Nat} (ha:Bs a) (k:Nat):Bs (a.take k):=fun x h=>ha x (List.mem_of_mem_take h)
theorem Bs.drop {a:List Nat} (ha:Bs a) (k:Nat):Bs (a.drop k):=fun x h=>ha x (List.mem_of_mem_drop h)
theorem Bs.app {a b:List Nat} (ha:Bs a) (hb:Bs b):Bs (a++b):=fun x h=>by
 rcases List.mem_append.1 h with h | h
 ·exact ha x h
 ·exact hb x h
theorem Bs.nil:Bs []:=fun x h=>by cases h
def Src (w:World) (ao:Option Addr) (xs:List Nat):Prop:=
 xs=[]∨∃ b off,ao=some ⟨b,off,none⟩∧∀ j,j<xs.length→w.cell? ⟨b,off+j,none⟩=some (.int .u8 (xs.getD j 0:Nat))
theorem Src.below {w w':World} {ao:Option Addr} {xs:List Nat} (h:Src w ao xs) (hb:Below w.heap.size w w'):Src w' ao xs:=by
 rcases h with h | ⟨b,off,rfl,hc⟩
 ·exact .inl h
 ·exact .inr ⟨b,off,rfl,fun j hj=>by
   have:=hc j hj
   exact (hb.cell (World.block_lt_of_cell? w _ this)).trans this⟩
theorem Src.touch {S:Nat→Prop} {w w':World} {ao:Option Addr} {xs:List Nat} (h:Src w ao xs) (ht:Touch S w w') (hs:∀ b off,ao=some ⟨b,off,none⟩→xs≠[]→¬S b):Src w' ao xs:=by
 rcases h with h | ⟨b,off,rfl,hc⟩
 ·exact .inl h
 ·by_cases hx:xs=[]
  ·exact .inl hx
  ·refine .inr ⟨b,off,rfl,fun j hj=>?_⟩
   have h1:=hc j hj
   rw [←h1]
   exact World.cell?_of_block (ht.block b (World.block_lt_of_cell? w _ h1) (hs b off rfl hx))
structure Sl (w:World) (ao:Option Addr) (c:Nat) (xs:List Nat):Prop where
 src:Src w ao xs
 le:xs.length≤c
 big:c≤maxLen
 nil:ao=none→c=0
 bs:Bs xs
theorem Sl.below {w w':World} {ao:Option Addr} {c:Nat} {xs:List Nat} (h:Sl w ao c xs) (hb:Below w.heap.size w w'):Sl w' ao c xs:=⟨h.src.below hb,h.le,h.big,h.nil,h.bs⟩
theorem Sl.drewN {w:World} {ao:Option Addr} {c:Nat} {xs:List Nat} (h:Sl w ao c xs) (n:Nat):Sl (w.drewN n) ao c xs:=h.below (below_drewN (Below.refl _ _) n)
theorem Sl.drew {w:World} {ao:Option Addr} {c:Nat} {xs:List Nat} (h:Sl w ao c xs):Sl w.drew ao c xs:=h.drewN 1
theorem Sl.none_ (w:World):Sl w none 0 []:=⟨.inl rfl,Nat.le_refl _,by simp [maxLen],fun _=>rfl,Bs.nil⟩
theorem Sl.cut {w:World} {ao:Option Addr} {c:Nat} {xs:List Nat} (h:Sl w ao c xs) (at_ n:Nat) (hle:at_+n≤xs.length) :
  Sl w (if c=at_ then ao else ao.map (·.add (at_*1))) (c-at_) ((xs.drop at_).take n):=by
 have hl:((xs.drop at_).take n).length=n:=by rw [List.length_take,List.length_drop];omega
 have:=h.le
 have:=h.big
 refine ⟨?_,by rw [hl];omega,by omega,?_,(h.bs.drop _).take _⟩
 ·by_cases hn:n=0
  ·subst hn;exact .inl (by simp)
  ·rw [if_neg (by omega)]
   rcases h.src with h0 | ⟨b,off,rfl,hc⟩
   ·rw [h0] at hle;simp at hle;omega
   ·refine .inr ⟨b,off+at_,by simp [Addr.add],fun j hj=>?_⟩
    rw [hl] at hj
    rw [Nat.add_assoc,hc (at_+j) (by omega)]
    simp [List.getD,hj]
 ·intro e
  by_cases hc:c=at_
  ·omega
  ·rw [if_neg hc] at e
   have:ao=none:=by simpa using e
   have:=h.nil this
   omega
def u8s (l:List Nat):List Value:=l.map fun x:Nat=>Value.int .u8 (x:Int)
theorem u8s_len (l:List Nat):(u8s l).length=l.length:=by simp [u8s]
theorem u8s_one (l:List Nat):∀ u∈u8s l,u.oneCell'=true:=by
 intro u hu
 obtain ⟨_,_,rfl⟩:=List.mem_map.1 hu
 rfl
theorem u8s_at (l:List Nat) (j:Nat) (h:j<l.length):(u8s l)[j]? = some (.int .u8 ((l.getD j 0:Nat):Int)):=by simp [u8s,h,List.getD]
theorem u8s_app (a b:List Nat):u8s a++u8s b=u8s (a++b):=by simp [u8s]
theorem own_shape' {w:World} {base:Nat} {e:TypeId} {size:Nat} {v:Value} {n:Nat} {xs:List Value} (h:w.ownsRow base e size v n xs):∃ a c,v = .slice a n c:=by
 rcases h.2 with ⟨rfl,rfl⟩ | ⟨g,cap,cur,rfl,_⟩
 ·exact ⟨_,_,rfl⟩
 ·exact ⟨_,_,rfl⟩
theorem own_base {w:World} {base base':Nat} {e:TypeId} {size:Nat} {v:Value} {n:Nat} {xs:List Value} (h:w.ownsRow base e size v n xs) (hb:base'≤base):w.ownsRow base' e size v n xs:=by
 refine ⟨h.1,?_⟩
 rcases h.2 with h2 | ⟨g,cap,cur,hv,hg,r⟩
 ·exact .inl h2
 ·exact .inr ⟨g,cap,cur,hv,Nat.le_trans hb hg,r⟩
theorem ownsRow_touch {S:Nat→Prop} {w w':World} {base:Nat} {e:TypeId} {size:Nat} {v:Value} {n:Nat} {xs:List Value} (h:w.ownsRow base e size v n xs) (ht:Touch S w w') (hs:∀ k,v.ownBlock=some k→¬S k):w'.ownsRow base e size v n xs:=by
 refine ⟨h.1,?_⟩
 rcases h.2 with hn | ⟨g,cap,cur,rfl,hb,hgg,rest⟩
 ·exact .inl hn
 ·refine .inr ⟨g,cap,cur,rfl,hb,?_,rest⟩
  rw [ht.block g (Array.getElem?_eq_some_iff.1 hgg).1 (hs g (by simp [Value.ownBlock]))]
  exact hgg
theorem ownsRow_below {w w':World} {base:Nat} {e:TypeId} {size:Nat} {v:Value} {n:Nat} {xs:List Value} (h:w.ownsRow base e size v n xs) (hb:Below w.heap.size w w'):w'.ownsRow base e size v n xs:=
 ownsRow_touch h (Touch.of_below (S:=fun _=>False) hb) fun _ _ h=>h
theorem own_empty (w:World) (e size:Nat):(w.alloc (.cells #[] e)).ownsRow w.heap.size e size (.slice (some ⟨w.heap.size,0,none⟩) 0 0) 0 []:=
 World.ownsRow_made w #[] 0 (Nat.le_refl _) (Nat.zero_le _) (by simp)
structure Apd (w:World) (base e sz:Nat) (v:Value) (n:Nat) (xs:List Value) (v':Value) (w':World):Prop where
 own:w'.ownsRow base e sz v' n xs
 touch:Touch (fun k=>v.ownBlock=some k) w w'
 row:∀ k,v'.ownBlock=some k→v.ownBlock=some k∨w.heap.size≤k
theorem Apd.trans {a b c:World} {base e sz n m:Nat} {v1 v2 v3:Value} {xs ys:List Value} (h:Apd a base e sz v1 n xs v2 b) (k:Apd b base e sz v2 m ys v3 c):Apd a base e sz v1 m ys v3 c:=by
 refine ⟨k.own,h.touch.trans' k.touch fun i hi hlt=>?_,fun i hi=>?_⟩
 ·rcases h.row i hi with h1 | h1
  ·exact h1
  ·omega
 ·rcases k.row i hi with h1 | h1
  ·exact h.row i h1
  ·right;have:=h.touch.size;omega
theorem Apd.alloc {a b:World} {base e sz n:Nat} {v1 v2:Value} {xs:List Value} {o:Obj} (k:Apd (a.alloc o) base e sz v1 n xs v2 b):Apd a base e sz v1 n xs v2 b:=
 ⟨k.own,((Touch.refl _ a).alloc o).trans k.touch,fun i hi=>by
  rcases k.row i hi with h | h
  ·exact .inl h
  ·right;simp at h;omega⟩
theorem Apd.below {a b:World} {base e sz n:Nat} {v1 v2:Value} {xs ys:List Value} {m:Nat} (k:Apd a base e sz v1 n xs v2 b) (h:a.ownsRow base e sz v1 m ys) (hb:base≤a.heap.size):Below base a b:=
 k.touch.below hb fun i hi=>(h.lt i hi).1
def CellsAt (w:World) (sv:Value) (m:Nat) (ys:List Value):Prop:=
 (sv = .slice none 0 0∧m=0∧ys=[])∨∃ ad c,sv = .slice (some ad) m c∧∀ j u,ys[j]? = some u→w.cell? (ad.add j)=some u
structure AT (t e:Nat) (z:Value) (size bytes:Nat):Prop where
 hu:Tryz.prog.underlying t=some (.slice e)
 info:(Tryz.prog.info? e).map (fun i=>(i.zero,i.size,i.bytes))=some (some z,size,bytes)
 zs:z.cells.size=size
 pos:0<size
theorem run_append_x {t e:Nat} {z:Value} {size bytes:Nat} (T:AT t e z size bytes) (w:World) {base:Nat} {v sv:Value} {n m:Nat} {xs ys:List Value} (ty:TypeId) (hown:w.ownsRow base e size v n xs) (hs:CellsAt w sv m ys)
  (hyl:ys.length=m*size) (h1:∀ u∈ys,u.oneCell'=true) (hbase:base≤w.heap.size) (hl:n+m≤140737488355328) (hby:(n+m)*bytes≤140737488355328) :
  ∃ v' w',(Builtin.append_ #[t,t] ty #[v,sv]).run Tryz.prog w = .ok v' w'∧Apd w base e size v (n+m) (xs++ys) v' w':=by
 obtain ⟨i0,hi,hz0,hz1,hz2⟩:=info_parts T.info
 rcases hs with ⟨rfl,rfl,rfl⟩ | ⟨ad,c,rfl,hcell⟩
 ·refine ⟨v,w,run_append_owned_none w base t ty e i0 size T.hu hi v n xs hown,?_,Touch.refl _ _,fun k hk => .inl hk⟩
  simpa using hown
 ·rcases hown.2 with ⟨rfl,hn0⟩ | ⟨g,cap,cur,rfl,hbg,hh,hnc,hcm,hcs,htake⟩
  ·subst hn0
   have hx:xs=[]:=List.eq_nil_of_length_eq_zero (by rw [hown.1,Nat.zero_mul])
   subst hx
   obtain ⟨v',w',hr,ho,hg,_⟩:=run_append_own (P:=Tryz.prog) w w.heap.size t ty e i0 z size bytes T.hu hi hz0 hz1 hz2 T.zs T.pos (.slice none 0 0) 0 [] (World.ownsRow_nil _ _ _ _) ad m c ys hyl hcell h1 (by unfold maxLen;omega) hby (Nat.le_refl _)
   exact ⟨v',w',hr,own_base ho hbase,(Touch.refl _ w).grown hg fun k hk=>by simp [Value.ownBlock] at hk,fun k hk => .inr (ho.lt k hk).1⟩
  ·by_cases hroom:n+m≤cap
   ·obtain ⟨w',hr,ho,hg⟩:=run_append_fits (P:=Tryz.prog) w base t ty e i0 size T.hu hi hz1 g n cap xs hown ad m c ys hyl hcell h1 hroom
    exact ⟨_,w',hr,ho,(Touch.refl _ w).grown hg fun k hk => .inl (by cases hk;simp [Value.ownBlock]),fun k hk => .inl (by simpa [Value.ownBlock] using hk)⟩
   ·obtain ⟨v',w',hr,ho,hg⟩:=run_append_arg_grows (P:=Tryz.prog) w t ty e i0 z size bytes T.hu hi hz0 hz1 hz2 T.zs T.pos ⟨g,0,none⟩ n cap xs hown.1 (hown.cells (by simp [Value.ownBlock])) ad m c ys hyl hcell (by omega) (by unfold maxLen;omega) hby
    exact ⟨v',w',hr,own_base ho hbase,(Touch.refl _ w).grown hg (fun k hk=>by cases hk),fun k hk => .inr (ho.lt k hk).1⟩
theorem wpList_append_x {t e:Nat} {z:Value} {size bytes:Nat} (T:AT t e z size bytes) {w:World} {ops:Array Oper} {rest:List Oper} {o:Oper} {a:Act} {Q:Exit→Act→World→Prop} (hgd:o.guard=none) (s x:Operand)
  (ho:o.op = .call { callee := .builtin .append,args := #[s,x],argTypes := #[t,t] })
  (base:Nat) (v sv:Value) (n m:Nat) (xs ys:List Value) (hs:a.eval s=v) (hx:a.eval x=sv) (hown:w.ownsRow base e size v n xs) (hsrc:CellsAt w sv m ys)
  (hyl:ys.length=m*size) (h1:∀ u∈ys,u.oneCell'=true) (hbase:base≤w.heap.size) (hl:n+m≤140737488355328) (hby:(n+m)*bytes≤140737488355328)
  (h:∀ ao c w',Apd w base e size v (n+m) (xs++ys) (.slice ao (n+m) c) w'→wpList Tryz.prog ops Q rest (a.put o.dst (.slice ao (n+m) c)) w'):wpList Tryz.prog ops Q (o::rest) a w:=by
 refine wpList_plain hgd fun K hK=>?_
 obtain ⟨v',w',hrun,hA⟩:=run_append_x T w o.type hown hsrc hyl h1 hbase hl hby
 obtain ⟨ao,c,rfl⟩:=own_shape' hA.own
 unfold Oper.wp
 simp [execOp,ho,resolve,invoke,builtin,hs,hx,hrun,Result.andThen]
 exact hK _ _ (by simpa using h ao c w' hA)
theorem at22:AT 22 5 (.int .u8 0) 1 1:=⟨by kernel_rfl,by kernel_rfl,rfl,by omega⟩
theorem Sl.cells {w:World} {ao:Option Addr} {c:Nat} {xs:List Nat} (h:Sl w ao c xs):CellsAt w (.slice ao xs.length c) xs.length (u8s xs):=by
 cases ao with
 | none=>
  have:=h.nil rfl
  have:=h.le
  have hx:xs=[]:=List.eq_nil_of_length_eq_zero (by omega)
  subst hx
  subst c
  exact .inl ⟨rfl,rfl,rfl⟩
 | some ad=>
  refine .inr ⟨ad,c,rfl,fun j u hu=>?_⟩
  have hj:j<xs.length:=by
   have:=(List.getElem?_eq_some_iff.1 hu).1
   rwa [u8s_len] at this
  rcases h.src with h0 | ⟨b,off,e,hc⟩
  ·rw [h0] at hj;simp at hj
  ·obtain rfl:=Option.some.inj e
   rw [Addr.add_lit,hc j hj,←hu,u8s_at xs j hj]
theorem own_sl {w:World} {base:Nat} {ao:Option Addr} {c:Nat} {xs:List Nat} (h:w.ownsRow base 5 1 (.slice ao xs.length c) xs.length (u8s xs)) (hb:Bs xs):Sl w ao c xs:=by
 rcases h.2 with ⟨e,h0⟩ | ⟨g,cap,cur,e,hbg,hh,hnc,hcm,hcs,htake⟩
 ·simp at e
  have hx:=List.eq_nil_of_length_eq_zero h0
  subst hx
  obtain ⟨rfl,_,rfl⟩:=e
  exact Sl.none_ w
 ·simp only [Value.slice.injEq] at e
  obtain ⟨rfl,_,rfl⟩:=e
  refine ⟨.inr ⟨g,0,rfl,fun j hj=>?_⟩,hnc,hcm,(fun e=>by cases e),hb⟩
  rw [Nat.zero_add,World.ownsRow.cellAt h j (by omega),u8s_at xs j hj]
def num:List Nat→Nat
 | []=>0
 | x::r=>x+256*num r
def le (n:Int):Nat→List Nat
 | 0=>[]
 | k+1=>le n k++[(n/256^k%256).toNat]
theorem le_len (n:Int) (k:Nat):(le n k).length=k:=by
 induction k with
 | zero=>rfl
 | succ k ih=>simp [le,ih]
theorem le_bs (n:Int) (k:Nat):Bs (le n k):=by
 induction k with
 | zero=>exact Bs.nil
 | succ k ih=>
  refine ih.app fun x h=>?_
  rw [List.mem_singleton] at h
  have:0≤n/256^k%256∧n/256^k%256<256:=⟨Int.emod_nonneg _ (by omega),Int.emod_lt_of_pos _ (by omega)⟩
  omega
theorem num_app (a b:List Nat):num (a++b)=num a+256^a.length*num b:=by
 induction a with
 | nil=>simp [num]
 | cons x r ih=>simp only [List.cons_append,num,ih,List.length_cons,Nat.pow_succ,Nat.mul_add];rw [Nat.mul_comm (256^r.length) 256,Nat.mul_assoc];omega
theorem num_lt {l:List Nat} (h:Bs l):num l<256^l.length:=by
 induction l with
 | nil=>simp [num]
 | cons x r ih=>
  have h1:=ih fun y hy=>h y (List.mem_cons_of_mem _ hy)
  have h2:=h x (List.mem_cons_self)
  simp only [num,List.length_cons,Nat.pow_succ]
  omega
theorem num_le2 (n:Int):(num (le n 2):Int)=n%65536:=by
 simp [le,num];omega
theorem num_le4 (n:Int):(num (le n 4):Int)=n%4294967296:=by
 simp [le,num];omega
theorem le_num2 {l:List Nat} (h:Bs l) (hl:l.length=2):le (num l) 2=l:=by
 match l,hl with
 | [a,b],_=>
  have ha:=h a (by simp)
  have hb:=h b (by simp)
  simp [le,num];omega
theorem le_num4 {l:List Nat} (h:Bs l) (hl:l.length=4):le (num l) 4=l:=by
 match l,hl with
 | [a,b,c,d],_=>
  have ha:=h a (by simp)
  have hb:=h b (by simp)
  have hc:=h c (by simp)
  have hd:=h d (by simp)
  simp [le,num];omega
theorem elem22:Tryz.prog.elem 22=5:=by simp [Program.elem,Tryz.underlying22]
theorem ht22:Tryz.prog.underlying 22=some (.slice (Tryz.prog.elem 22)):=by rw [elem22];exact Tryz.underlying22
theorem size5 (W:World):(sizeOf 5).run Tryz.prog W = .ok 1 W:=by
 obtain ⟨i0,hi,hz0,hz1,hz2⟩:=info_parts at22.info
 simp [sizeOf,typeInfo,hi,hz1]
def cutA (ao:Option Addr) (c a:Nat):Option Addr:=if c=a then ao else ao.map (·.add (a*1))
theorem cutA_zero (ao:Option Addr) (c:Nat):cutA ao c 0=ao:=by
 unfold cutA
 split
 ·rfl
 ·cases ao <;> simp [Addr.add]
theorem slice_lh (ao:Option Addr) (len c a b:Nat) (hab:a≤b) (hbc:b≤c) (W:World) :
  (Instr.slice 22 (.slice ao len c) (some (.int .i64 (a:Int))) (some (.int .i64 (b:Int))) none).run Tryz.prog W = .ok (.slice (cutA ao c a) (b-a) (c-a)) W:=by
 rw [run_slice_lh W 22 ao len c ht22 .i64 .i64 _ _ (by omega) (by omega) (by omega),elem22,size5]
 simp only [Result.andThen,sliced,Int.toNat_natCast,cutA]
theorem slice_l (ao:Option Addr) (len c a:Nat) (hab:a≤len) (W:World) :
  (Instr.slice 22 (.slice ao len c) (some (.int .i64 (a:Int))) none none).run Tryz.prog W = .ok (.slice (cutA ao c a) (len-a) (c-a)) W:=by
 rw [run_slice_l W 22 ao len c ht22 .i64 _ (by omega) (by omega),elem22,size5]
 simp only [Result.andThen,sliced,Int.toNat_natCast,cutA]
theorem slice_h (ao:Option Addr) (len c b:Nat) (hbc:b≤c) (W:World) :
  (Instr.slice 22 (.slice ao len c) none (some (.int .i64 (b:Int))) none).run Tryz.prog W = .ok (.slice ao b c) W:=by
 rw [run_slice_h W 22 ao len c ht22 .i64 _ (by omega) (by omega),elem22,size5]
 have:=cutA_zero ao c
 simp only [cutA] at this
 simp [Result.andThen,sliced]
 cases ao <;> simp [Addr.add]
theorem Sl.cut' {w:World} {ao:Option Addr} {c:Nat} {xs:List Nat} (h:Sl w ao c xs) (at_ n:Nat) (hle:at_+n≤xs.length):Sl w (cutA ao c at_) (c-at_) ((xs.drop at_).take n):=h.cut at_ n hle
theorem win_len {xs:List Nat} {at_ n:Nat} (h:at_+n≤xs.length):((xs.drop at_).take n).length=n:=by
 rw [List.length_take,List.length_drop];omega
theorem or_i64 (a b:Nat) (ha:a<9223372036854775808) (hb:b<9223372036854775808):bits BinOp.or IntKind.i64 (a:Int) (b:Int)=((a ||| b:Nat):Int):=by
 have hx:a ||| b<2^63:=Nat.or_lt_two_pow (by omega) (by omega)
 have h1:(BitVec.ofInt 64 (a:Int)).toNat=a:=by
  rw [BitVec.ofInt_natCast,BitVec.toNat_ofNat];exact Nat.mod_eq_of_lt (by omega)
 have h2:(BitVec.ofInt 64 (b:Int)).toNat=b:=by
  rw [BitVec.ofInt_natCast,BitVec.toNat_ofNat];exact Nat.mod_eq_of_lt (by omega)
 show IntKind.i64.wrap ((BitVec.ofInt 64 (a:Int) ||| BitVec.ofInt 64 (b:Int)).toNat:Int)=_
 rw [BitVec.toNat_or,h1,h2,IntKind.wrap_i64]
 omega
theorem take_next (l:List Nat) (k:Nat) (h:k<l.length):l.take (k+1)=l.take k++[l.getD k 0]:=by
 rw [List.take_add_one]
 simp [List.getD,h]
theorem num_step {xs:List Nat} {k x z:Nat} (hb:Bs xs) (hk:k<xs.length) (hl:xs.length≤4) (hx:x=xs.getD k 0) (hz:z=num (xs.take k)) :
  bits BinOp.or IntKind.i64 (z:Int) (wrap64 ((x:Int)*2^(8*k)))=((num (xs.take (k+1)):Nat):Int):=by
 have h1:z<256^k:=by
  have:=num_lt (hb.take k)
  rw [List.length_take,Nat.min_eq_left (by omega)] at this
  omega
 have h2:x<256:=by rw [hx];exact hb.at k
 rw [take_next xs k hk,num_app,←hx,←hz,List.length_take,Nat.min_eq_left (by omega)]
 have e256:(256:Nat)^k=2^(8*k):=by rw [Nat.pow_mul]
 have h3:num [x]=x:=by simp [num]
 rw [h3]
 have h4:x*2^(8*k)<4294967296∧256^k*x<4294967296∧z<4294967296:=by
  have p1:2^(8*k)≤2^24:=Nat.pow_le_pow_right (by omega) (by omega)
  have p2:(2:Nat)^24=16777216:=by decide
  rw [p2] at p1
  rw [e256] at ⊢
  rw [e256] at h1
  have p3:x*2^(8*k)≤255*16777216:=Nat.mul_le_mul (by omega) p1
  have p4:=Nat.mul_comm (2^(8*k)) x
  omega
 have h5:wrap64 ((x:Int)*2^(8*k))=((x*2^(8*k):Nat):Int):=by
  have:(x:Int)*2^(8*k)=((x*2^(8*k):Nat):Int):=by simp
  rw [this]
  unfold wrap64
  omega
 have q0:x*2^(8*k)<4294967296:=h4.1
 have q1:z<9223372036854775808:=Nat.lt_trans h4.2.2 (by decide)
 have q2:x*2^(8*k)<9223372036854775808:=Nat.lt_trans q0 (by decide)
 rw [e256] at h1
 have q4:=Nat.two_pow_add_eq_or_of_lt (i:=8*k) h1 x
 rw [h5,or_i64 _ _ q1 q2,e256]
 congr 1
 rw [Nat.or_comm,Nat.mul_comm x,←q4,Nat.add_comm]
theorem clone_nil (c:Nat) (w:World) (n:Nat) :
  Calls Tryz.prog 37 #[.slice none n c] w fun e w'=>e = .returned (.slice none 0 0)∧w=w':=by
 have q22:∀ (w:World) (a:Option Addr) (n c n' c':Nat),(binOp .eql 22 (.slice a n c) (.slice none n' c')).run Tryz.prog w = .ok (.bool a.isNone) w:=fun w a n c n' c'=>Lib.run_eql_slice_nil w _ _ a n c n' c' Tryz.underlying22
 go_enter Tryz.func37,Tryz.ntmps37
 go_wp2
 go_ret
 exact ⟨rfl,rfl⟩
def Fresh (B:Nat) (w':World) (ao:Option Addr) (c:Nat) (xs:List Nat):Prop:=Sl w' ao c xs∧∀ ad,ao=some ad→B≤ad.block
def Cloned (xs:List Nat) (w:World) (e:Ending) (w':World):Prop:=∃ ao c,e = .returned (.slice ao xs.length c)∧Fresh w.heap.size w' ao c xs∧Below w.heap.size w w'
theorem clone_some (ad:Addr) (c:Nat) (xs:List Nat) (w:World) (h:Sl w (some ad) c xs) (hm:xs.length≤1000000000) :
  Calls Tryz.prog 37 #[.slice (some ad) xs.length c] w (Cloned xs w):=by
 have q22:∀ (w:World) (a:Option Addr) (n c n' c':Nat),(binOp .eql 22 (.slice a n c) (.slice none n' c')).run Tryz.prog w = .ok (.bool a.isNone) w:=fun w a n c n' c'=>Lib.run_eql_slice_nil w _ _ a n c n' c' Tryz.underlying22
 have HS:=Lib.hid (h.below ((Below.refl _ w).alloc (Nat.le_refl _) (.cells #[] 5)))
 have hbs:=h.bs
 clear h
 go_enter Tryz.func37,Tryz.ntmps37
 go_wp2_with (at_builtin;refine wpList_append_x at22 rfl (.tmp 5) (.tmp 6) rfl w.heap.size (.slice (some ⟨w.heap.size,0,none⟩) 0 0) (.slice (some ad) xs.length c) 0 xs.length [] (u8s xs) rfl rfl (own_empty w 5 1) HS.out.cells (by rw [u8s_len,Nat.mul_one]) (u8s_one xs) (by simp) (by omega) (by omega) ?c2)
 case c2=>
 intro ao c' w' hA
 have hA':Apd (w.alloc (.cells #[] 5)) w.heap.size 5 1 (.slice (some ⟨w.heap.size,0,none⟩) 0 0) xs.length (u8s xs) (.slice ao xs.length c') w':=by simpa using hA
 have hb:Below w.heap.size w w':=((Below.refl _ w).alloc (Nat.le_refl _) _).trans (hA'.below (own_empty w 5 1) (by simp))
 have hf:Fresh w.heap.size w' ao c' xs:=⟨own_sl hA'.own hbs,fun a ha=>by
  subst ha
  exact (hA'.own.lt a.block rfl).1⟩
 clear hA hA' HS
 go_wp2
 go_ret
 exact ⟨ao,c',rfl,hf,hb⟩
theorem clone_any (ao:Option Addr) (c:Nat) (xs:List Nat) (w:World) (h:Sl w ao c xs) (hm:xs.length≤1000000000) :
  Calls Tryz.prog 37 #[.slice ao xs.length c] w (Cloned xs w):=by
 cases ao with
 | none=>
  have h0:=h.nil rfl
  have h1:=h.le
  have hx:xs=[]:=List.eq_nil_of_length_eq_zero (by omega)
  subst hx
  exact (clone_nil c w 0).mono fun e w' ⟨he,hw⟩=>by subst hw;exact ⟨none,0,he,⟨Sl.none_ w,fun _ h=>by cases h⟩,Below.refl _ _⟩
 | some ad=>exact clone_some ad c xs w h hm
def Drew (w w':World):Prop:=∃ q,w'=w.drewN q
set_option maxHeartbeats 400000 in
theorem same_eq (a1 a2:Option Addr) (c1 c2:Nat) (xs:List Nat) (w:World) (h1:Sl w a1 c1 xs) (h2:Sl w a2 c2 xs) :
  Calls Tryz.prog 13 #[.slice a1 xs.length c1,.slice a2 xs.length c2] w fun e w'=>e = .returned (.bool true)∧Drew w w':=by
 have H1:=Lib.hid h1
 have H2:=Lib.hid h2
 have hm:=h1.le
 have hm2:=h1.big
 unfold maxLen at hm2
 clear h1 h2
 go_enter Tryz.func13,Tryz.ntmps13
 go_wp2
 go_loopg [5] xs.length (fun gh vi wr=>∃ (k q:Nat),k≤xs.length∧xs.length-k≤gh∧vi = .int .i64 k∧wr=w.drewN q)
 case atStart=>exact ⟨0,0,Nat.zero_le _,by omega,rfl,rfl⟩
 case round=>
  obtain ⟨k,q,hk,hgh,rfl,rfl⟩:=hrel
  by_cases hlt:k<xs.length
  ·have hkk:(k:Int)<xs.length:=by omega
   rcases H1.out.src with h0 | ⟨b1,o1,rfl,hc1⟩
   ·rw [h0] at hlt;simp at hlt
   rcases H2.out.src with h0 | ⟨b2,o2,rfl,hc2⟩
   ·rw [h0] at hlt;simp at hlt
   have e1:=hc1 k hlt
   have e2:=hc2 k hlt
   clear hc1 hc2
   go_wp2_with fail
   go_quiet (fail)
   go_wp2
   go_roundg (xs.length-(k+1))
   case measure=>omega
   case rel=>exact ⟨k+1,_,by omega,Nat.le_refl _,by go_num,(by first | rfl | exact World.drewN_drewN _ _ _)⟩
  ·go_wp2
   go_ret
   exact ⟨rfl,_,rfl⟩
theorem shr_step (n:Int) (k:Nat):(n/2^(8*k))%256=n/256^k%256:=by
 rw [Int.pow_mul];rfl
theorem cells_one (w:World) (e:TypeId) (u:Value):CellsAt (w.alloc (.cells #[u] e)) (.slice (some ⟨w.heap.size,0,none⟩) 1 1) 1 [u]:=by
 refine .inr ⟨_,_,rfl,fun j v hv=>?_⟩
 have hj:j=0:=by
  have:=(List.getElem?_eq_some_iff.1 hv).1
  simp at this;omega
 subst hj
 rw [Addr.add_lit,World.cell?_alloc_at _ _ _ _ rfl]
 simpa using hv
def PutN (base:Nat) (v:Value) (xs:List Nat) (w:World) (e:Ending) (w':World):Prop:=∃ ao c,e = .returned (.slice ao xs.length c)∧Apd w base 5 1 v xs.length (u8s xs) (.slice ao xs.length c) w'
end
end Go.Proofs.YtbogfailbgbdoaaGreatDoor
namespace Go.Proofs.YtbogfailbgbdoaaGreatDoor.U
set_option maxRecDepth 100000
def isSign (v:Nat):Prop:=v≤1114111∧(v<55296∨57343<v)
instance (v:Nat):Decidable (isSign v):=by unfold isSign;infer_instance
def enc (v:Nat):List Nat:=
 if v<128 then [v]
 else if v<2048 then [192+v/64,128+v%64]
 else if v<65536 then [224+v/4096,128+v/64%64,128+v%64]
 else [240+v/262144,128+v/4096%64,128+v/64%64,128+v%64]
def decL (L:List Nat):Nat × Nat:=Go.Lib.decodeN L.length (L.getD 0 0) (L.getD 1 0) (L.getD 2 0) (L.getD 3 0)
def nx (L:List Nat):Nat × Nat:=if L=[] then (0,0) else if (decL L).1=65533∧(decL L).2=1 then (0,0) else decL L
theorem enc_pos (v:Nat):0<(enc v).length:=by
 unfold enc
 repeat' split
 all_goals simp
theorem enc_le (v:Nat):(enc v).length≤4:=by
 unfold enc
 repeat' split
 all_goals simp
theorem enc_byte {v:Nat} (h:v≤1114111):∀ x∈enc v,x<256:=by
 intro x hx
 unfold enc at hx
 repeat' split at hx
 all_goals (simp at hx;omega)
theorem shape (n b0 b1 b2 b3:Nat) :
  (b0<128∧Go.Lib.decodeN n b0 b1 b2 b3=(b0,1)) ∨
  (b0/32=6∧1<n∧b1/64=2∧128≤b0%32*64+b1%64∧Go.Lib.decodeN n b0 b1 b2 b3=(b0%32*64+b1%64,2)) ∨
  (b0/16=14∧2<n∧b1/64=2∧b2/64=2∧2048≤b0%16*4096+b1%64*64+b2%64∧(b0%16*4096+b1%64*64+b2%64<55296∨57344≤b0%16*4096+b1%64*64+b2%64)∧
   Go.Lib.decodeN n b0 b1 b2 b3=(b0%16*4096+b1%64*64+b2%64,3)) ∨
  (b0/8=30∧3<n∧b1/64=2∧b2/64=2∧b3/64=2∧65536≤b0%8*262144+b1%64*4096+b2%64*64+b3%64∧b0%8*262144+b1%64*4096+b2%64*64+b3%64≤1114111∧
   Go.Lib.decodeN n b0 b1 b2 b3=(b0%8*262144+b1%64*4096+b2%64*64+b3%64,4)) ∨
  Go.Lib.decodeN n b0 b1 b2 b3=(65533,1):=by
 unfold Go.Lib.decodeN
 repeat' split
 all_goals first
  | (left;exact ⟨by assumption,by rfl⟩)
  | (right;left;exact ⟨by omega,by omega,by omega,by omega,by rfl⟩)
  | (right;right;left;exact ⟨by omega,by omega,by omega,by omega,by omega,by omega,by rfl⟩)
  | (right;right;right;left;exact ⟨by omega,by omega,by omega,by omega,by omega,by omega,by omega,by rfl⟩)
  | (right;right;right;right;rfl)
theorem get_take:∀ (L:List Nat) (k:Nat),k<L.length→L.take (k+1)=L.take k++[L.getD k 0]
 | [],_,h=>by simp at h
 | a::t,0,_=>by simp
 | a::t,k+1,h=>by
  have:=get_take t k (by simpa using h)
  simp only [List.take_succ_cons,List.getD_cons_succ,List.cons_append]
  rw [this]
theorem nx_some {L:List Nat} (hb:∀ x∈L,x<256) (h:(nx L).2≠0):isSign (nx L).1∧(nx L).2=(enc (nx L).1).length∧L.take (nx L).2=enc (nx L).1∧(nx L).2≤L.length:=by
 unfold nx at h ⊢
 by_cases h0:L=[]
 ·rw [if_pos h0] at h;exact absurd rfl h
 rw [if_neg h0] at h ⊢
 by_cases h1:(decL L).1=65533∧(decL L).2=1
 ·rw [if_pos h1] at h;exact absurd rfl h
 rw [if_neg h1] at h ⊢
 have hl:0<L.length:=List.length_pos_iff.2 h0
 have hg:∀ i,L.getD i 0<256:=fun i=>by
  rw [List.getD_eq_getElem?_getD]
  by_cases hi:i<L.length
  ·rw [List.getElem?_eq_getElem hi];exact hb _ (List.getElem_mem _)
  ·rw [List.getElem?_eq_none (by omega)];exact (by decide)
 have g0:=hg 0;have g1:=hg 1;have g2:=hg 2;have g3:=hg 3
 have t0:=get_take L 0 hl
 unfold decL at h h1 ⊢
 rcases shape L.length (L.getD 0 0) (L.getD 1 0) (L.getD 2 0) (L.getD 3 0) with ⟨c,e⟩ | ⟨c1,c2,c3,cv,e⟩ | ⟨c1,c2,c3,c4,cv,cs,e⟩ | ⟨c1,c2,c3,c4,c5,cv,cs,e⟩ | e
 ·rw [e]
  generalize L.getD 0 0=a at *
  refine ⟨⟨by simp only;omega,by simp only;omega⟩,?_,?_,hl⟩
  ·unfold enc;rw [if_pos (by simpa using c)];rfl
  ·unfold enc;rw [if_pos (by simpa using c)];simpa using t0
 ·rw [e]
  have t1:=get_take L 1 c2
  rw [t0] at t1
  generalize L.getD 0 0=a at *
  generalize L.getD 1 0=b at *
  have hv:enc (a%32*64+b%64)=[a,b]:=by
   unfold enc
   rw [if_neg (by omega),if_pos (by omega)]
   congr 1
   ·omega
   ·congr 1;omega
  refine ⟨⟨by simp only;omega,by simp only;omega⟩,by simp only [hv];rfl,by simp only [hv];simpa using t1,by simp only;omega⟩
 ·rw [e]
  have t1:=get_take L 1 (by omega)
  have t2:=get_take L 2 c2
  rw [t0] at t1
  rw [t1] at t2
  generalize L.getD 0 0=a at *
  generalize L.getD 1 0=b at *
  generalize L.getD 2 0=c at *
  have hv:enc (a%16*4096+b%64*64+c%64)=[a,b,c]:=by
   unfold enc
   rw [if_neg (by omega),if_neg (by omega),if_pos (by omega)]
   congr 1
   ·omega
   ·congr 1
    ·omega
    ·congr 1;omega
  refine ⟨⟨by simp only;omega,by simp only;omega⟩,by simp only [hv];rfl,by simp only [hv];simpa using t2,by simp only;omega⟩
 ·rw [e]
  have t1:=get_take L 1 (by omega)
  have t2:=get_take L 2 (by omega)
  have t3:=get_take L 3 c2
  rw [t0] at t1
  rw [t1] at t2
  rw [t2] at t3
  generalize L.getD 0 0=a at *
  generalize L.getD 1 0=b at *
  generalize L.getD 2 0=c at *
  generalize L.getD 3 0=d at *
  have hv:enc (a%8*262144+b%64*4096+c%64*64+d%64)=[a,b,c,d]:=by
   unfold enc
   rw [if_neg (by omega),if_neg (by omega),if_neg (by omega)]
   congr 1
   ·omega
   ·congr 1
    ·omega
    ·congr 1
     ·omega
     ·congr 1;omega
  refine ⟨⟨by simp only;omega,by simp only;omega⟩,by simp only [hv];rfl,by simp only [hv];simpa using t3,by simp only;omega⟩
 ·rw [e] at h1;exact absurd ⟨rfl,rfl⟩ h1
theorem nx_enc {v:Nat} (h:isSign v) (t:List Nat):nx (enc v++t)=(v,(enc v).length):=by
 obtain ⟨h1,h2⟩:=h
 have hne:enc v++t≠[]:=by
  have:=enc_pos v
  intro e
  have e1:=congrArg List.length e
  rw [List.length_append,List.length_nil] at e1;omega
 unfold nx
 rw [if_neg hne]
 have key:decL (enc v++t)=(v,(enc v).length):=by
  unfold decL enc
  by_cases c1:v<128
  ·simp only [if_pos c1]
   simp [Go.Lib.decodeN,c1]
  simp only [if_neg c1]
  by_cases c2:v<2048
  ·simp only [if_pos c2]
   simp only [List.cons_append,List.nil_append,List.length_cons,List.getD_cons_zero,List.getD_cons_succ,List.length_nil]
   unfold Go.Lib.decodeN
   rw [if_neg (by omega),if_pos (by omega),if_pos (by omega)]
   congr 1;omega
  simp only [if_neg c2]
  by_cases c3:v<65536
  ·simp only [if_pos c3]
   simp only [List.cons_append,List.nil_append,List.length_cons,List.getD_cons_zero,List.getD_cons_succ,List.length_nil]
   unfold Go.Lib.decodeN
   rw [if_neg (by omega),if_neg (by omega),if_pos (by omega),if_pos (by omega)]
   congr 1;omega
  simp only [if_neg c3]
  simp only [List.cons_append,List.nil_append,List.length_cons,List.getD_cons_zero,List.getD_cons_succ,List.length_nil]
  unfold Go.Lib.decodeN
  rw [if_neg (by omega),if_neg (by omega),if_neg (by omega),if_pos (by omega),if_pos (by omega)]
  congr 1;omega
 rw [key,if_neg]
 rintro ⟨e1,e2⟩
 simp only at e1 e2
 subst e1
 revert e2
 decide
theorem nx_none {L:List Nat} (h:(nx L).2=0):nx L=(0,0):=by
 unfold nx at h ⊢
 by_cases h0:L=[]
 ·rw [if_pos h0]
 rw [if_neg h0] at h ⊢
 by_cases h1:(decL L).1=65533∧(decL L).2=1
 ·rw [if_pos h1]
 rw [if_neg h1] at h
 exfalso
 revert h
 unfold decL
 rcases shape L.length (L.getD 0 0) (L.getD 1 0) (L.getD 2 0) (L.getD 3 0) with ⟨c,e⟩ | ⟨c1,c2,c3,cv,e⟩ | ⟨c1,c2,c3,c4,cv,cs,e⟩ | ⟨c1,c2,c3,c4,c5,cv,cs,e⟩ | e <;> rw [e] <;> simp
theorem take_append {a b c d:List Nat} (h:a++b=c++d):(∃ e,a=c++e∧d=e++b)∨(∃ e,c=a++e∧b=e++d):=by
 rcases List.append_eq_append_iff.1 h with ⟨e,h1,h2⟩ | ⟨e,h1,h2⟩
 ·exact .inr ⟨e,h1,h2⟩
 ·exact .inl ⟨e,h1,h2⟩
theorem nx_cut {v j:Nat} (h:isSign v) (hj:j<(enc v).length):nx ((enc v).take j)=(0,0):=by
 apply nx_none
 apply Classical.byContradiction
 intro hne
 have hb:∀ x∈(enc v).take j,x<256:=fun x hx=>enc_byte h.1 x (List.mem_of_mem_take hx)
 obtain ⟨s1,s2,s3,s4⟩:=nx_some hb hne
 obtain ⟨u,hu⟩:∃ u,u=(nx ((enc v).take j)).1:=⟨_,rfl⟩
 rw [←hu] at s1 s2 s3
 have e1:enc v=enc u++(enc v).drop (nx ((enc v).take j)).2:=by
  rw [←s3,List.take_take]
  have:min (nx ((enc v).take j)).2 j=(nx ((enc v).take j)).2:=by
   rw [List.length_take] at s4;omega
  rw [this,List.take_append_drop]
 have k1:=nx_enc s1 ((enc v).drop (nx ((enc v).take j)).2)
 have k2:=nx_enc h []
 rw [List.append_nil] at k2
 rw [←e1,k2] at k1
 injection k1 with k1 k3
 rw [List.length_take,s2,←k3] at s4
 omega
end Go.Proofs.YtbogfailbgbdoaaGreatDoor.U
namespace Go.Proofs.YtbogfailbgbdoaaGreatDoor
set_option maxRecDepth 100000
def ldec_ren:Go.Shelf.Ren:=⟨fun | 32=>90 | 49=>115 | n=>n,fun | 30=>22 | 21=>21 | 3=>3 | 0=>0 | 5=>5 | 4=>4 | 33=>98 | 66=>146 | 25=>126 | 69=>149 | 68=>148 | n=>n,fun | 2=>1 | 3=>2 | n=>n⟩
theorem ldec:Go.Proofs.Lays7.n32 Tryz.prog ldec_ren:={
 mixed:=by kernel_rfl,
 f32:=Tryz.func90.trans (congrArg some (by kernel_rfl)),
 f49:=Tryz.func115.trans (congrArg some (by kernel_rfl)),
 t0:=Tryz.underlying0,
 a0:=Tryz.isAgg0,
 z0:=Tryz.sizeOf0,
 v0:=Tryz.zeroValue0,
 i0:=by kernel_rfl,
 t3:=Tryz.underlying3,
 a3:=Tryz.isAgg3,
 z3:=Tryz.sizeOf3,
 v3:=Tryz.zeroValue3,
 i3:=by kernel_rfl,
 t4:=Tryz.underlying4,
 a4:=Tryz.isAgg4,
 z4:=Tryz.sizeOf4,
 v4:=Tryz.zeroValue4,
 i4:=by kernel_rfl,
 t5:=Tryz.underlying5,
 a5:=Tryz.isAgg5,
 z5:=Tryz.sizeOf5,
 v5:=Tryz.zeroValue5,
 i5:=by kernel_rfl,
 t21:=Tryz.underlying21,
 a21:=Tryz.isAgg21,
 z21:=Tryz.sizeOf21,
 v21:=Tryz.zeroValue21,
 i21:=by kernel_rfl,
 t25:=Tryz.underlying126,
 a25:=Tryz.isAgg126,
 z25:=Tryz.sizeOf126,
 v25:=Tryz.zeroValue126,
 i25:=by kernel_rfl,
 t30:=Tryz.underlying22,
 a30:=Tryz.isAgg22,
 z30:=Tryz.sizeOf22,
 v30:=Tryz.zeroValue22,
 i30:=by kernel_rfl,
 t33:=Tryz.underlying98,
 a33:=Tryz.isAgg98,
 z33:=Tryz.sizeOf98,
 v33:=Tryz.zeroValue98,
 i33:=by kernel_rfl,
 t66:=Tryz.underlying146,
 a66:=Tryz.isAgg146,
 z66:=Tryz.sizeOf146,
 t68:=Tryz.underlying148,
 a68:=Tryz.isAgg148,
 z68:=Tryz.sizeOf148,
 v68:=Tryz.zeroValue148,
 i68:=by kernel_rfl,
 t69:=Tryz.underlying149,
 a69:=Tryz.isAgg149,
 z69:=Tryz.sizeOf149,
 v69:=Tryz.zeroValue149,
 i69:=by kernel_rfl,
 g2:=by kernel_rfl,
 g3:=by kernel_rfl }
def lapp_ren:Go.Shelf.Ren:=⟨fun | 242=>87 | 278=>114 | n=>n,fun | 37=>22 | 21=>21 | 51=>132 | 4=>4 | 5=>5 | 46=>126 | n=>n,fun | n=>n⟩
theorem lapp:Go.Proofs.Lays.n242 Tryz.prog lapp_ren:={
 mixed:=by kernel_rfl,
 f242:=Tryz.func87.trans (congrArg some (by kernel_rfl)),
 f278:=Tryz.func114.trans (congrArg some (by kernel_rfl)),
 t4:=Tryz.underlying4,
 a4:=Tryz.isAgg4,
 z4:=Tryz.sizeOf4,
 v4:=Tryz.zeroValue4,
 t5:=Tryz.underlying5,
 a5:=Tryz.isAgg5,
 z5:=Tryz.sizeOf5,
 v5:=Tryz.zeroValue5,
 t21:=Tryz.underlying21,
 a21:=Tryz.isAgg21,
 z21:=Tryz.sizeOf21,
 v21:=Tryz.zeroValue21,
 t37:=Tryz.underlying22,
 a37:=Tryz.isAgg22,
 z37:=Tryz.sizeOf22,
 v37:=Tryz.zeroValue22,
 t46:=Tryz.underlying126,
 a46:=Tryz.isAgg126,
 z46:=Tryz.sizeOf126,
 v46:=Tryz.zeroValue126,
 t51:=Tryz.underlying132,
 a51:=Tryz.isAgg132,
 z51:=Tryz.sizeOf132,
 v51:=Tryz.zeroValue132 }
section
open Go.RowKit U
structure TU (w:World):Prop where
 utf:Lib.Utf8Tabs 1 2 w
 len:∃ m:Int,w.cell? ⟨0,0,none⟩=some (.int .i64 m)
theorem TU.grow {w w':World} (h:TU w) (hb:Below w.heap.size w w'):TU w':=
 ⟨Utf8Tabs_below h.utf hb,by
  obtain ⟨m,hm⟩:=h.len
  exact ⟨m,(hb.cell (World.block_lt_of_cell? w _ hm)).trans hm⟩⟩
def BA (l:List Nat):ByteArray:=⟨(l.map UInt8.ofNat).toArray⟩
theorem BA_size (l:List Nat):(BA l).size=l.length:=by simp [BA,ByteArray.size]
theorem BA_get {l:List Nat} (hb:Bs l) (i:Nat):((BA l).get! i).toNat=l.getD i 0:=by
 show ((l.map UInt8.ofNat).toArray[i]!).toNat=_
 by_cases h:i<l.length
 ·have h2:=hb _ (List.getElem_mem h)
  rw [getElem!_pos _ i (by simpa using h)]
  simp [List.getD,h]
  omega
 ·rw [getElem!_neg _ i (by simpa using h),List.getD_eq_getElem?_getD,List.getElem?_eq_none (by omega:l.length≤i)]
  decide
theorem decodeGo_BA {l:List Nat} (hb:Bs l) (hne:l≠[]):Lib.decodeGo (BA l)=decL l:=by
 have hl:=List.length_pos_iff.2 hne
 unfold Lib.decodeGo decL
 rw [if_neg (by rw [BA_size];omega),Lib.decode_at,BA_size,BA_get hb,BA_get hb,BA_get hb,BA_get hb]
 rfl
def nxF (xs:List Nat) (at_:Int):Nat × Nat:=if at_<0 then (0,0) else nx (xs.drop at_.toNat)
theorem nx_nil:nx []=(0,0):=rfl
theorem nxF_nat (xs:List Nat) (k:Nat):nxF xs k=nx (xs.drop k):=by unfold nxF;rw [if_neg (by omega)];rfl
theorem nx_le4 (L:List Nat) (hb:Bs L):(nx L).2≤4∧(nx L).2≤L.length∧(nx L).1≤1114111:=by
 by_cases h:(nx L).2=0
 ·rw [nx_none h];exact ⟨by decide,Nat.zero_le _,by decide⟩
 ·obtain ⟨h1,h2,h3,h4⟩:=nx_some hb h
  exact ⟨by rw [h2];exact enc_le _,h4,h1.1⟩
set_option maxHeartbeats 1600000 in
theorem Next_any (ao:Option Addr) (c:Nat) (xs:List Nat) (at_:Int) (w:World) (h:Sl w ao c xs) (hT:TU w) :
  Calls Tryz.prog 65 #[.slice ao xs.length c,.int .i64 at_] w fun e w'=>e = .returned (.tuple #[.int .i32 ((nxF xs at_).1:Nat),.int .i64 ((nxF xs at_).2:Nat)])∧Below w.heap.size w w':=by
 have hm:=Nat.le_trans h.le h.big
 by_cases c1:at_<0
 ·have e:nxF xs at_=(0,0):=by unfold nxF;rw [if_pos c1]
  rw [e]
  clear h hT e
  go_enter Tryz.func65,Tryz.ntmps65
  go_wp2
  go_ret2
  exact ⟨rfl,Below.refl _ _⟩
 by_cases c2:(xs.length:Int)≤at_
 ·have e:nxF xs at_=(0,0):=by unfold nxF;rw [if_neg c1,List.drop_eq_nil_of_le (by omega)];rfl
  rw [e]
  clear h hT e
  go_enter Tryz.func65,Tryz.ntmps65
  go_wp2
  go_ret2
  exact ⟨rfl,Below.refl _ _⟩
 obtain ⟨k,rfl⟩:∃ k:Nat,at_=(k:Int):=⟨at_.toNat,by omega⟩
 have hk:k<xs.length:=by omega
 rcases h.src with h0 | ⟨b,off,rfl,hc⟩
 ·rw [h0] at hk;simp at hk
 obtain ⟨L,hL⟩:∃ L,L=xs.drop k:=⟨_,rfl⟩
 have hLl:L.length=xs.length-k:=by rw [hL];simp
 have hbs:Bs L:=by rw [hL];exact h.bs.drop k
 have hne:L≠[]:=by intro e;rw [e] at hLl;simp at hLl;omega
 have hsl:=slice_l (some ⟨b,off,none⟩) xs.length c k (by omega)
 have hnotcap:¬c=k:=by have:=h.le;omega
 rw [cutA,if_neg hnotcap] at hsl
 have K:=Any7.utf8_DecodeRune ldec (BA L) b (off+k) (c-k) w hT.utf (fun j hj=>by
  rw [BA_size,hLl] at hj
  have:=hc (k+j) (by omega)
  rw [Nat.add_assoc,this,BA_get hbs,hL]
  simp [List.getD])
 rw [BA_size,decodeGo_BA hbs hne,hLl] at K
 have K:Hid (Calls Tryz.prog 90 #[.slice (some ⟨b,off+k,none⟩) (xs.length-k) (c-k)] w fun e w'=>e = .returned (.tuple #[.int .i32 ((decL L).1:Nat),.int .i64 ((decL L).2:Nat)])∧Below w.heap.size w w'):=Lib.hid K
 have hnx:nxF xs (k:Int)=if (decL L).1=65533∧(decL L).2=1 then (0,0) else decL L:=by
  rw [nxF_nat,←hL];unfold nx;rw [if_neg hne]
 obtain ⟨R,hR⟩:∃ R,R=nxF xs (k:Int):=⟨_,rfl⟩
 rw [←hR] at hnx ⊢
 have HN:=Lib.hid hnx
 obtain ⟨dr,hdr⟩:∃ dr,dr=(decL L).1:=⟨_,rfl⟩
 obtain ⟨dn,hdn⟩:∃ dn,dn=(decL L).2:=⟨_,rfl⟩
 have hdd:decL L=(dr,dn):=by rw [hdr,hdn]
 rw [←hdr,←hdn] at K
 rw [hdd] at HN
 have HM:=Lib.hid h.le
 clear hR hnx hdr hdn hdd hc hbs hne hLl hT h
 rw [Option.map_some,Nat.mul_one,Addr.add_lit] at hsl
 by_cases d1:dr=65533
 ·by_cases d2:dn=1
  ·subst d1 d2
   have HR:Hid (R=(0,0)):=Lib.hid (by rw [HN.out];simp)
   go_enter Tryz.func65,Tryz.ntmps65
   go_wp2_with (go_at_call 90;(with_reducible refine K.out.mono ?_);rintro e w1 ⟨rfl,hb⟩;have HB:=Lib.hid hb;clear hb)
   go_ret2
   exact ⟨by rw [HR.out];rfl,HB.out⟩
  ·have d2':¬(dn:Int)=1:=by omega
   have HR:Hid (R=(dr,dn)):=Lib.hid (by rw [HN.out,if_neg (by simp [d2])])
   clear d2
   subst d1
   go_enter Tryz.func65,Tryz.ntmps65
   go_wp2_with (go_at_call 90;(with_reducible refine K.out.mono ?_);rintro e w1 ⟨rfl,hb⟩;have HB:=Lib.hid hb;clear hb)
   go_ret2
   exact ⟨by rw [HR.out];rfl,HB.out⟩
 ·have d1':¬(dr:Int)=65533:=by omega
  have HR:Hid (R=(dr,dn)):=Lib.hid (by rw [HN.out,if_neg (by simp [d1])])
  clear d1
  go_enter Tryz.func65,Tryz.ntmps65
  go_wp2_with (go_at_call 90;(with_reducible refine K.out.mono ?_);rintro e w1 ⟨rfl,hb⟩;have HB:=Lib.hid hb;clear hb)
  go_ret2
  exact ⟨by rw [HR.out];rfl,HB.out⟩
end
section
open Go.RowKit
theorem alloc_size (w:World) (o:Obj):(w.alloc o).heap.size=w.heap.size+1:=Array.size_push _
def wth (L:List (Int × Int)) (r:Int):Bool:=L.any fun s=>decide (s.1≤r) && decide (r≤s.2)
theorem wth_nil (r:Int):wth [] r=false:=rfl
theorem wth_drop {L:List (Int × Int)} {k:Nat} (h:k<L.length) (r:Int):wth (L.drop k) r=((decide ((L.getD k (0,0)).1≤r) && decide (r≤(L.getD k (0,0)).2)) || wth (L.drop (k+1)) r):=by
 have e:L.getD k (0,0)=L[k]:=by simp [List.getD,h]
 rw [wth,List.drop_eq_getElem_cons h,List.any_cons,e]
 rfl
structure Spn (w:World) (b:Nat) (L:List (Int × Int)):Prop where
 lt:b<w.heap.size
 fst:∀ k,k<L.length→w.cell? ⟨b,k*2,none⟩=some (.int .i32 (L.getD k (0,0)).1)
 snd:∀ k,k<L.length→w.cell? ⟨b,k*2+1,none⟩=some (.int .i32 (L.getD k (0,0)).2)
theorem Spn.below {w w':World} {b:Nat} {L:List (Int × Int)} (h:Spn w b L) (hb:Below w.heap.size w w'):Spn w' b L:=
 ⟨Nat.lt_of_lt_of_le h.lt hb.size,fun k hk=>(hb.cell (p:=⟨b,k*2,none⟩) h.lt).trans (h.fst k hk),fun k hk=>(hb.cell (p:=⟨b,k*2+1,none⟩) h.lt).trans (h.snd k hk)⟩
set_option maxHeartbeats 1600000 in
theorem within1_any (r:Int) (p b:Nat) (L:List (Int × Int)) (c:Nat) (w:World) (hl:L.length≤100) (hc:L.length≤c) (hp:w.cell? ⟨p,0,none⟩=some (.slice (some ⟨b,0,none⟩) L.length c)) (hs:Spn w b L) :
  Calls Tryz.prog 91 #[.int .i32 r,.pointer (some ⟨p,0,none⟩)] w fun e w'=>e = .returned (.bool (wth L r))∧Below w.heap.size w w':=by
 have HS:=Lib.hid hs
 obtain ⟨A,hA⟩:∃ A,A=wth L r:=⟨_,rfl⟩
 rw [←hA]
 have HA:=Lib.hid hA
 obtain ⟨N,hN⟩:∃ N,N=L.length:=⟨_,rfl⟩
 have HN:=Lib.hid hN
 rw [←hN] at hp hl hc
 clear hs hA hN
 go_enter Tryz.func91,Tryz.ntmps91
 go_wp2
 go_loopw [8] (fun vi wr=>∃ k:Nat,k≤N∧vi = .int .i64 k∧Below w.heap.size w wr∧Hid (A=wth (L.drop k) r)) (fun vi _=>N-(intOf vi).toNat)
 case atStart=>exact ⟨0,Nat.zero_le _,rfl,Below.refl _ _,Lib.hid (by rw [HA.out];rfl)⟩
 case round=>
  obtain ⟨k,hk,rfl,hbw,hrel⟩:=hrel
  have HB:=Lib.hid hbw
  clear hbw
  by_cases hlt:k<N
  ·have hkk:(k:Int)<N:=by omega
   have hs:=HS.out.below HB.out
   have c1:=hs.fst k (by rw [←HN.out];exact hlt)
   have c2:=hs.snd k (by rw [←HN.out];exact hlt)
   have hst:=Lib.hid (hrel.out.trans (wth_drop (by rw [←HN.out];exact hlt) r))
   obtain ⟨x,hx⟩:∃ x,x=(L.getD k (0,0)).1:=⟨_,rfl⟩
   obtain ⟨y,hy⟩:∃ y,y=(L.getD k (0,0)).2:=⟨_,rfl⟩
   rw [←hx] at c1 hst
   rw [←hy] at c2 hst
   clear hx hy hs hrel
   by_cases d1:x≤r
   ·by_cases d2:r≤y
    ·have HR:Hid (A=true):=Lib.hid (by rw [hst.out];simp [d1,d2])
     go_wp2
     go_ret
     exact ⟨by rw [HR.out];rfl,HB.out.alloc (by have:=HB.out.size;omega) _⟩
    ·have HR:Hid (A=wth (L.drop (k+1)) r):=Lib.hid (by rw [hst.out];simp [d2])
     go_wp2
     go_roundw
     case rel=>exact ⟨k+1,by omega,by go_num,HB.out.alloc (by have:=HB.out.size;omega) _,HR⟩
     case measure=>simp [intOf];omega
   ·have HR:Hid (A=wth (L.drop (k+1)) r):=Lib.hid (by rw [hst.out];simp [d1])
    go_wp2
    go_roundw
    case rel=>exact ⟨k+1,by omega,by go_num,HB.out.alloc (by have:=HB.out.size;omega) _,HR⟩
    case measure=>simp [intOf];omega
  ·obtain rfl:k=N:=by omega
   have HR:Hid (A=false):=Lib.hid (by rw [hrel.out,HN.out,List.drop_length];rfl)
   go_wp2
   go_ret
   exact ⟨by rw [HR.out];rfl,HB.out⟩
theorem Spn.made (w:World) (L:List (Int × Int)) (cs:Array Value) (hcs:cs=(L.flatMap fun s=>[Value.int .i32 s.1,Value.int .i32 s.2]).toArray):Spn (w.alloc (.cells cs 102)) w.heap.size L:=by
 have key:∀ (L:List (Int × Int)) (k:Nat),k<L.length→(L.flatMap fun s=>[Value.int .i32 s.1,Value.int .i32 s.2])[k*2]? = some (.int .i32 (L.getD k (0,0)).1)∧(L.flatMap fun s=>[Value.int .i32 s.1,Value.int .i32 s.2])[k*2+1]? = some (.int .i32 (L.getD k (0,0)).2):=by
  intro L
  induction L with
  | nil=>intro k h;simp at h
  | cons a t ih=>
   intro k h
   cases k with
   | zero=>simp
   | succ k=>
    have:=ih k (by simpa using h)
    have e:(k+1)*2=k*2+1+1:=by omega
    rw [e,List.flatMap_cons,List.cons_append,List.cons_append,List.nil_append,List.getElem?_cons_succ,List.getElem?_cons_succ,List.getElem?_cons_succ,List.getElem?_cons_succ,List.getD_cons_succ]
    exact this
 refine ⟨by rw [alloc_size];omega,fun k hk=>?_,fun k hk=>?_⟩
 ·rw [World.cell?_alloc_at _ _ _ _ rfl,hcs]
  simpa using (key L k hk).1
 ·rw [World.cell?_alloc_at _ _ _ _ rfl,hcs]
  simpa using (key L k hk).2
def charL:List (Int × Int):=[(32,55295),(9,10),(13,13),(57344,65533),(65536,1114111)]
def blankL:List (Int × Int):=[(32,32),(9,10),(13,13)]
def beginsL:List (Int × Int):=[(97,122),(65,90),(95,95),(192,214),(216,246),(248,767),(880,893),(895,8191),(8204,8205),(8304,8591),(11264,12271),(12289,55295),(63744,64975),(65008,65533),(65536,983039)]
def goesL:List (Int × Int):=[(48,57),(45,46),(183,183),(768,879),(8255,8256)]
def fnW (p:Nat):Value := .func (.func 91) #[] #[.pointer (some ⟨p,0,none⟩)]
structure Clo (w:World) (p:Nat) (L:List (Int × Int)):Prop where
 run:∀ w',Below w.heap.size w w'→∀ r,Calls Tryz.prog 91 #[.int .i32 r,.pointer (some ⟨p,0,none⟩)] w' fun e w''=>e = .returned (.bool (wth L r))∧Below w'.heap.size w' w''
theorem within_any (b c:Nat) (L:List (Int × Int)) (w:World) (n:Nat) (hn:n=L.length) (hl:L.length≤100) (hc:L.length≤c) (hs:Spn w b L) :
  Calls Tryz.prog 66 #[.slice (some ⟨b,0,none⟩) n c] w fun e w'=>∃ p,e = .returned (fnW p)∧Clo w' p L∧Below w.heap.size w w':=by
 subst hn
 have hb:Below w.heap.size w (w.alloc (.cells #[.slice (some ⟨b,0,none⟩) L.length c] 116)):=(Below.refl _ w).alloc (Nat.le_refl _) _
 have HC:Hid (Clo (w.alloc (.cells #[.slice (some ⟨b,0,none⟩) L.length c] 116)) w.heap.size L):=Lib.hid ⟨fun w' hw' r=>within1_any r w.heap.size b L c w' hl hc ((hw'.cell (p:=⟨w.heap.size,0,none⟩) (show w.heap.size<(w.alloc _).heap.size by rw [alloc_size];omega)).trans (by rw [World.cell?_alloc_at _ _ _ _ rfl];rfl)) ((hs.below hb).below hw')⟩
 have HB:=Lib.hid hb
 clear hs hb
 go_enter Tryz.func66,Tryz.ntmps66
 go_wp2
 go_ret
 exact ⟨_,rfl,HC.out,HB.out⟩
set_option maxHeartbeats 1600000 in
theorem Char_any (r:Int) (w:World):Calls Tryz.prog 40 #[.int .i32 r] w fun e w'=>e = .returned (.bool (wth charL r))∧Below w.heap.size w w':=by
 have HS:=Lib.hid (Spn.made w charL _ rfl)
 have HB:=Lib.hid ((Below.refl _ w).alloc (Nat.le_refl _) (.cells (charL.flatMap fun s=>[Value.int .i32 s.1,Value.int .i32 s.2]).toArray 102))
 go_enter Tryz.func40,Tryz.ntmps40
 go_wp2_with (first
  | (go_at_call 66;refine (within_any _ 5 charL _ 5 rfl (by decide) (by decide) HS.out).mono ?_;rintro e w1 ⟨p,rfl,hc,hb⟩;have HC:=Lib.hid (hc.run w1 (Below.refl _ _));have HB1:=Lib.hid (HB.out.trans (hb.mono HB.out.size));clear hc hb;unfold fnW)
  | (go_at_call 91;refine (HC.out r).mono ?_;rintro e w2 ⟨rfl,hb⟩;have HB2:=Lib.hid (HB1.out.trans (hb.mono HB1.out.size));clear hb))
 go_ret
 exact ⟨rfl,HB2.out⟩
set_option maxHeartbeats 1600000 in
theorem Blank_any (r:Int) (w:World):Calls Tryz.prog 95 #[.int .i32 r] w fun e w'=>e = .returned (.bool (wth blankL r))∧Below w.heap.size w w':=by
 have HS:=Lib.hid (Spn.made w blankL _ rfl)
 have HB:=Lib.hid ((Below.refl _ w).alloc (Nat.le_refl _) (.cells (blankL.flatMap fun s=>[Value.int .i32 s.1,Value.int .i32 s.2]).toArray 102))
 go_enter Tryz.func95,Tryz.ntmps95
 go_wp2_with (first
  | (go_at_call 66;refine (within_any _ 3 blankL _ 3 rfl (by decide) (by decide) HS.out).mono ?_;rintro e w1 ⟨p,rfl,hc,hb⟩;have HC:=Lib.hid (hc.run w1 (Below.refl _ _));have HB1:=Lib.hid (HB.out.trans (hb.mono HB.out.size));clear hc hb;unfold fnW)
  | (go_at_call 91;refine (HC.out r).mono ?_;rintro e w2 ⟨rfl,hb⟩;have HB2:=Lib.hid (HB1.out.trans (hb.mono HB1.out.size));clear hb))
 go_ret
 exact ⟨rfl,HB2.out⟩
set_option maxHeartbeats 1600000 in
theorem Begins_any (r:Int) (w:World):Calls Tryz.prog 140 #[.int .i32 r] w fun e w'=>e = .returned (.bool (wth beginsL r))∧Below w.heap.size w w':=by
 have HS:=Lib.hid (Spn.made w beginsL _ rfl)
 have HB:=Lib.hid ((Below.refl _ w).alloc (Nat.le_refl _) (.cells (beginsL.flatMap fun s=>[Value.int .i32 s.1,Value.int .i32 s.2]).toArray 102))
 go_enter Tryz.func140,Tryz.ntmps140
 go_wp2_with (first
  | (go_at_call 66;refine (within_any _ 15 beginsL _ 15 rfl (by decide) (by decide) HS.out).mono ?_;rintro e w1 ⟨p,rfl,hc,hb⟩;have HC:=Lib.hid (hc.run w1 (Below.refl _ _));have HB1:=Lib.hid (HB.out.trans (hb.mono HB.out.size));clear hc hb;unfold fnW)
  | (go_at_call 91;refine (HC.out r).mono ?_;rintro e w2 ⟨rfl,hb⟩;have HB2:=Lib.hid (HB1.out.trans (hb.mono HB1.out.size));clear hb))
 go_ret
 exact ⟨rfl,HB2.out⟩
def goesP (r:Int):Bool:=wth beginsL r || wth goesL r
set_option maxHeartbeats 1600000 in
theorem Goes_any (r:Int) (w:World):Calls Tryz.prog 124 #[.int .i32 r] w fun e w'=>e = .returned (.bool (goesP r))∧Below w.heap.size w w':=by
 obtain ⟨A,hA⟩:∃ A,A=wth beginsL r:=⟨_,rfl⟩
 have HK:=Lib.hid (Begins_any r w)
 rw [←hA] at HK
 have HG:Hid (goesP r=(A || wth goesL r)):=Lib.hid (by rw [hA];rfl)
 obtain ⟨G,hG⟩:∃ G,G=goesP r:=⟨_,rfl⟩
 rw [←hG] at HG ⊢
 clear hA hG
 cases A with
 | true=>
  have HR:Hid (G=true):=Lib.hid (by rw [HG.out];rfl)
  go_enter Tryz.func124,Tryz.ntmps124
  go_wp2_with (go_at_call 140;refine HK.out.mono ?_;rintro e w1 ⟨rfl,hb⟩;have HB1:=Lib.hid hb;clear hb)
  go_ret
  exact ⟨by rw [HR.out];rfl,HB1.out⟩
 | false=>
  have HR:Hid (G=wth goesL r):=Lib.hid (by rw [HG.out];rfl)
  go_enter Tryz.func124,Tryz.ntmps124
  go_wp2_with (first
   | (go_at_call 140;refine HK.out.mono ?_;rintro e w0 ⟨rfl,hb⟩;have HB0:=Lib.hid hb;have HS:=Lib.hid (Spn.made w0 goesL _ rfl);have HB:=Lib.hid (HB0.out.trans (((Below.refl _ w0).alloc (Nat.le_refl _) (.cells (goesL.flatMap fun s=>[Value.int .i32 s.1,Value.int .i32 s.2]).toArray 102)).mono HB0.out.size));clear hb)
   | (go_at_call 66;refine (within_any _ 5 goesL _ 5 rfl (by decide) (by decide) HS.out).mono ?_;rintro e w1 ⟨p,rfl,hc,hb⟩;have HC:=Lib.hid (hc.run w1 (Below.refl _ _));have HB1:=Lib.hid (HB.out.trans (hb.mono HB.out.size));clear hc hb;unfold fnW)
   | (go_at_call 91;refine (HC.out r).mono ?_;rintro e w2 ⟨rfl,hb⟩;have HB2:=Lib.hid (HB1.out.trans (hb.mono HB1.out.size));clear hb))
  go_ret
  exact ⟨by rw [HR.out];rfl,HB2.out⟩
end
end Go.Proofs.YtbogfailbgbdoaaGreatDoor
