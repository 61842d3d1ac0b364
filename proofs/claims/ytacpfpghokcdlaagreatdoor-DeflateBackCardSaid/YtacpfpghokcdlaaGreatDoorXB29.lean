/- Part 29. -/
import Derived.HandedShaped
import Derived.Lib.OwnBridge
import Derived.Lib.SmallJoins
import Derived.Shelf.Slices.In.SortNone
import Derived.Sort.OwnSortedInts
import Derived.Test.YtacpfpghokcdlaaGreatDoorXB28
open Go.Proofs.Tryz
namespace Go.Proofs.YtacpfpghokcdlaaGreatDoor
set_option maxRecDepth 100000
set_option maxHeartbeats 3200000
theorem QQ0{α}{l:List α}(h:l.length=0):l=[]:=List.eq_nil_of_length_eq_zero h
theorem zgn {d:Array Int}{i:Nat}(h:Lib.keeps d i=true) (h0:0<i):d[i]! ≠ d[i-1]! := by
 unfold Lib.keeps at h;simp at h;rcases h with h | h
 ·omega
 ·exact h
theorem zdM {d:Array Int}{i:Nat}(h:¬Lib.keeps d i=true):0<i∧d[i]! = d[i-1]! := by
 unfold Lib.keeps at h;simp at h;exact ⟨by omega,h.2⟩
section
variable {zs:List Int}
theorem jd {i:Nat}(h:i<zs.length):zs.toArray[i]! = zs[i]:=by
 rw [getElem!_pos _ _ (by simpa using h)];simp
theorem Um {x:Int}:x∈Lib.compact zs↔x∈zs:=by
 unfold Lib.compact Lib.compactUpTo;constructor
 ·intro h
  obtain ⟨i,hi,rfl⟩:=List.mem_map.1 h;have hi2:=(List.mem_filter.1 hi).1;rw [List.mem_range] at hi2;rw [jd hi2];exact List.getElem_mem hi2
 ·intro h
  obtain ⟨i,hi,rfl⟩:=List.getElem_of_mem h;have key:∀ i,∀ hi:i<zs.length,zs[i]∈((List.range zs.length).filter (Lib.keeps zs.toArray)).map (zs.toArray[·]!):=by
   intro i;induction i with
   | zero=>
    intro hi;refine List.mem_map.2 ⟨0,List.mem_filter.2 ⟨List.mem_range.2 hi,?_⟩,jd hi⟩;unfold Lib.keeps;simp
   | succ i ih=>
    intro hi;by_cases hk:Lib.keeps zs.toArray (i+1)=true
    ·exact List.mem_map.2 ⟨i+1,List.mem_filter.2 ⟨List.mem_range.2 hi,hk⟩,jd hi⟩
    ·have h2:=(zdM hk).2
     rw [Nat.add_sub_cancel,jd hi,jd (show i<zs.length by omega)] at h2;rw [h2];exact ih (by omega)
  exact key i hi
theorem zak (h:zs.Pairwise (· ≤ ·)):(Lib.compact zs).Pairwise (· < ·):=by
 unfold Lib.compact Lib.compactUpTo;rw [List.pairwise_map,List.pairwise_filter];refine List.Pairwise.imp_of_mem (R:=(· < ·)) ?_ List.pairwise_lt_range;intro i j hi hj hlt _ hkj;rw [List.mem_range] at hi hj;have hne:=zgn hkj (by omega);have hle:=fun a b (h1:a<b) (h2:b<zs.length)=>List.pairwise_iff_getElem.1 h a b (by omega) h2 h1
 rw [jd hj,jd (show j-1<zs.length by omega)] at hne;rw [jd hi,jd hj];have h1:zs[j-1]≤zs[j]:=hle (j-1) j (by omega) hj;have h2:zs[i]≤zs[j-1]:=by
  rcases Nat.lt_or_ge i (j-1) with h | h
  ·exact hle i (j-1) h (by omega)
  ·have:i=j-1:=by omega
   subst this;omega
 omega
theorem kF:(Lib.compact zs).length≤zs.length:=by
 unfold Lib.compact Lib.compactUpTo;rw [List.length_map];have:=List.length_filter_le (Lib.keeps zs.toArray) (List.range zs.length);rwa [List.length_range] at this
end
theorem zd5 {A B:List Int}(hA:A.Nodup) (h:∀ x∈A,x∈B):A.length≤B.length:=by
 induction A generalizing B with
 | nil=>exact Nat.zero_le _
 | cons a A ih=>
  obtain ⟨h1,h2⟩:=List.nodup_cons.1 hA;have hb:=h a (List.mem_cons_self ..);have:=ih (B:=B.erase a) h2 (fun x hx=>(List.mem_erase_of_ne (fun (e:x=a)=>h1 (e ▸ hx))).2 (h x (List.mem_cons_of_mem _ hx)));rw [List.length_erase_of_mem hb] at this;have:=List.length_pos_of_mem hb;rw [List.length_cons];omega
def ya (n:Nat) (z:Int):Bool:=decide (z<1) || decide ((n:Int)-1<z)
def kj (n:Nat) (zs:List Int):List Int:=Lib.compact ((zs.filter fun z => !ya n z).mergeSort fun x y=>decide (x≤y))
theorem kk {n:Nat}{zs:List Int}{x:Int}:x∈kj n zs↔x∈zs∧0<x∧x<n:=by
 unfold kj;rw [Um,List.mem_mergeSort,List.mem_filter];unfold ya;simp;omega
theorem zg4 (n:Nat) (zs:List Int):(kj n zs).Pairwise (· < ·):=by
 unfold kj;refine zak ?_;have:=List.pairwise_mergeSort (le:=fun x y:Int=>decide (x≤y)) (fun a b c h1 h2=>by simp at h1 h2 ⊢;omega) (fun a b=>by simp;omega) (zs.filter fun z => !ya n z)
 exact this.imp fun h=>by simpa using h
theorem zaf (n:Nat) (zs:List Int):(kj n zs).length≤zs.length:=by
 unfold kj;have h1:=kF (zs:=(zs.filter fun z => !ya n z).mergeSort fun x y=>decide (x≤y));rw [List.length_mergeSort] at h1;have h2:=List.length_filter_le (fun z => !ya n z) zs;omega
def frL (L:Nat) (zs:List Int):Nat→List Int
 | 0=>[]
 | i+1=>frL L zs i++if 0<zs.getD i 0∧zs.getD i 0<(L:Int)∧zs.getD i 0∉zs.take i then [zs.getD i 0] else []
theorem zkg (L:Nat) (zs:List Int):∀ i,i≤zs.length→(frL L zs i).length=frp L zs i∧(frL L zs i).Nodup∧∀ x∈frL L zs i,x∈zs.take i∧0<x∧x<L:=by
 intro i;induction i with
 | zero=>intro _;exact ⟨rfl,List.nodup_nil,fun x hx=>by cases hx⟩
 | succ i ih=>
  intro hi;obtain ⟨h1,h2,h3⟩:=ih (by omega);have hlt:i<zs.length:=by omega
  have hg:zs.getD i 0=zs[i]:=by rw [List.getD_eq_getElem?_getD,List.getElem?_eq_getElem hlt];rfl
  have ht:zs.take (i+1)=zs.take i++[zs.getD i 0]:=by rw [hg,List.take_succ_eq_append_getElem hlt]
  rw [frL,frp,List.length_append,h1];split
  ·rename_i hc
   refine ⟨rfl,?_,fun x hx=>?_⟩
   ·rw [List.nodup_append]
    refine ⟨h2,by simp,fun a ha b hb=>?_⟩
    rw [List.mem_singleton] at hb;subst hb;intro e;subst e;exact hc.2.2 (h3 _ ha).1
   ·rw [ht]
    rcases List.mem_append.1 hx with h | h
    ·exact ⟨List.mem_append_left _ (h3 x h).1,(h3 x h).2⟩
    ·rw [List.mem_singleton] at h
     subst h;exact ⟨List.mem_append_right _ (List.mem_singleton_self _),hc.1,hc.2.1⟩
  ·refine ⟨rfl,by rw [List.append_nil];exact h2,fun x hx=>?_⟩
   rw [List.append_nil] at hx;rw [ht];exact ⟨List.mem_append_left _ (h3 x hx).1,(h3 x hx).2⟩
theorem ziV (n:Nat) (zs:List Int):fr n zs≤(kj n zs).length:=by
 obtain ⟨h1,h2,h3⟩:=zkg n zs zs.length (Nat.le_refl _);unfold fr;rw [←h1];exact zd5 h2 fun x hx=>kk.2 ⟨by have:=(h3 x hx).1;rwa [List.take_length] at this,(h3 x hx).2⟩
def x6 (n:Nat) (zs:List Int):List Nat:=(kj n zs).map Int.toNat++[n]
theorem KB (n:Nat) (zs:List Int):Y.ints (x6 n zs)=kj n zs++[(n:Int)]:=by
 unfold x6 Y.ints;rw [List.map_append,List.map_map];congr 1
 have:∀ x∈kj n zs,((fun i:Nat=>(i:Int)) ∘ Int.toNat) x=x:=fun x hx=>by
  have:=(kk.1 hx).2.1;show ((x.toNat:Nat):Int)=x;omega
 rw [List.map_congr_left this];simp
theorem ziS (n:Nat) (zs:List Int):Ends n (x6 n zs):=by
 unfold x6;refine ⟨?_,by simp,fun e he=>?_⟩
 ·rw [List.pairwise_append]
  refine ⟨?_,List.pairwise_singleton _ _,fun a ha b hb=>?_⟩
  ·rw [List.pairwise_map]
   refine List.Pairwise.imp_of_mem (R:=(· < ·)) ?_ (zg4 n zs);intro a b ha hb h;have:=(kk.1 ha).2.1;show a.toNat<b.toNat;omega
  ·obtain ⟨x,hx,rfl⟩:=List.mem_map.1 ha
   rw [List.mem_singleton] at hb;subst hb;have:=(kk.1 hx).2;omega
 ·rcases List.mem_append.1 he with h | h
  ·obtain ⟨x,hx,rfl⟩:=List.mem_map.1 h
   have:=(kk.1 hx).2;omega
  ·rw [List.mem_singleton] at h
   omega
theorem ze6 (n:Nat) (zs:List Int):fr n zs+1≤(x6 n zs).length∧(x6 n zs).length≤zs.length+1:=by
 have h1:=ziV n zs;have h2:=zaf n zs;unfold x6;simp only [List.length_append,List.length_map,List.length_singleton];omega
section
open Go.Lib renaming hid → J
open Go.RowKit Go.Sort
theorem ziZ:OneCell fun z:Int=>Value.int .i64 z:=fun _=>rfl
theorem zfS (a:Option Addr) (c:Nat) (v:Value) (w:World):Calls prog 72 #[.slice a 0 c,v] w fun e w'=>e=.returned (.int .i64 (-1))∧w'=w:=by
 go_enter func72,ntmps72;go_wp2;refine wp_loop_rounds 1 ?_;rw [rounds_succ];go_wp2;go_ret;exact ⟨rfl,rfl⟩
theorem zf5 (a:Option Addr) (c:Nat) (v:Value) (w:World):Calls prog 50 #[.slice a 0 c,v] w fun e w'=>e=.returned (.slice a 0 c)∧w'=w:=by
 go_enter func50,ntmps50;go_wp2_with fail
 refine (zfS _ _ _ _).mono ?_;rintro e w' ⟨rfl,rfl⟩;go_wp2;go_ret;exact ⟨rfl,rfl⟩
def Ri (B:Nat) (ao:Option Addr) (c:Nat) (zs:List Int) (w:World):Prop:=w.ownsRow B 3 1 (.slice ao zs.length c) zs.length (zs.map (Value.int .i64))
theorem zg1 {w:World}{zo:Option Addr}{zc:Nat}{zs:List Int}(h:IS w zo zs) (hl:zs.length≤100000):Calls prog 51 #[.slice zo zs.length zc] w fun e w'=>∃ ao c,e=.returned (.slice ao zs.length c)∧Ri w.heap.size ao c zs w'∧Below w.heap.size w w':=by
 have done:∀ (v':Value) (w':World),w'.ownsRow w.heap.size 3 1 v' zs.length (zs.map (Value.int .i64))→Below w.heap.size w w'→∃ ao c,Ending.returned v' = .returned (.slice ao zs.length c)∧Ri w.heap.size ao c zs w'∧Below w.heap.size w w':=fun v' w' ho hb=>by
  obtain ⟨ao,c,rfl⟩:=zr ho;exact ⟨ao,c,rfl,ho,hb⟩
 rcases h with rfl | ⟨b,off,rfl,hc⟩
 ·cases zo with
  | none=>
   refine (Any.slices_Clone_int_nil zbD 0 zc w).mono ?_;rintro e w' ⟨rfl,rfl⟩;exact ⟨none,0,rfl,⟨rfl,.inl ⟨rfl,rfl⟩⟩,Below.refl _ _⟩
  | some a=>
   refine (Any.slices_Clone_int_zero zbD a zc w).mono ?_;rintro e w' ⟨v',rfl,ho,_,hb⟩;exact done v' w' ho hb
 ·refine (Any.slices_Clone_int zbD b off zs.length zc zs w (Nat.le_refl _) (by omega) hc).mono ?_
  rintro e w' ⟨v',rfl,ho,_,hb⟩;rw [List.take_length] at ho;exact done v' w' ho hb
theorem Ri.some {B:Nat}{ao:Option Addr}{c:Nat}{zs:List Int}{w:World}(h:Ri B ao c zs w) (h0:zs≠[]):∃ g,ao=some ⟨g,0,none⟩∧B≤g∧g<w.heap.size∧zs.length≤c∧Holds (Value.int .i64) w g 0 zs.toArray:=by
 obtain ⟨g,cap,he,h1,h2,h3,_,_,h6⟩:=Lib.holds_of_ownsRow h (by
  intro e;injection e with _ e1 _;exact h0 (QQ0 e1))
 injection he with e1 _ e3;subst e1;subst e3;exact ⟨g,rfl,h1,h2,h3,h6⟩
theorem uV {enc:Int→Value}{w:World}{q g:Nat}{d:Array Int}{p:Nat}(hp:p≠g) (os:Array Obj) (v:Value) (h:w.cell? ⟨p,0,none⟩=some v):(sortWorld enc w g 0 q d os).cell? ⟨p,0,none⟩=some v:=by
 have hlt:=World.block_lt_of_cell? w _ h;simp only [World.cell?] at h ⊢;rw [←h];have e:(sortWorld enc w g 0 q d os).heap[p]? = w.heap[p]? := by
  unfold sortWorld;first
   | rw [heap_grow_old _ _ (by simpa using hlt)]
   | skip
  simp [putRow,mapBlock,Sort.ahead,Array.getElem?_modify,Ne.symm hp]
 rw [e]
theorem zj6 {B:Nat}{ao:Option Addr}{c:Nat}{zs:List Int}{w:World}{p q n:Nat}(h:Ri B ao c zs w) (hl:zs.length≤100000) (hK:Xg w p q 1 ((n:Int)-1)) (hp:∀ g,ao=some ⟨g,0,none⟩→p≠g∧q≠g) :
  Calls prog 50 #[.slice ao zs.length c,fnO p q] w fun e w'=>e=.returned (.slice ao (zs.filter fun z => !ya n z).length c)∧Ri B ao c (zs.filter fun z => !ya n z) w'∧Below B w w':=by
 by_cases h0:zs=[]
 ·subst h0
  refine (zf5 ao c (fnO p q) w).mono ?_;rintro e w' ⟨rfl,rfl⟩;exact ⟨rfl,h,Below.refl _ _⟩
 ·obtain ⟨g,rfl,hb,hg,hzc,hH⟩:=h.some h0
  have hpg:=hp g rfl;have give:∀ (W:World) (x:Int),Xg W p q 1 ((n:Int)-1)→FnGives prog 40 #[.pointer (some ⟨p,0,none⟩),.pointer (some ⟨q,0,none⟩)] #[Value.int .i64 x] (.bool (ya n x)) W:=fun W x hK'=>by
   refine (za1 p q 1 ((n:Int)-1) x W hK').mono ?_;rintro e w' ⟨rfl,rfl⟩;refine ⟨?_,0,rfl⟩;congr 2
   unfold ya;by_cases a:x<1 <;> by_cases b:(n:Int)-1<x <;> simp [a,b]
  have hP:=AnyE.slices_DeleteFunc zmH (fun z:Int=>Value.int .i64 z) ziZ (ya n) 40 #[.pointer (some ⟨p,0,none⟩),.pointer (some ⟨q,0,none⟩)]
   (fun args w=>by kernel_rfl) 0 (fun w=>by kernel_rfl) g 0 c zs.toArray w (fun W x hW=>give W x (hK.on hW))
   (fun k os dk x _=>give _ x ⟨uV hpg.1 os _ hK.lo,uV hpg.2 os _ hK.hi⟩) hH (by simp;omega) (by simpa using hzc)
  refine hP.mono ?_;rintro e w' ⟨rfl,k,rfl⟩;refine ⟨rfl,?_,Lib.below_putRow (Below.refl _ _) hb⟩;have:=Lib.ownsRow_putRow (enc:=Value.int .i64) (q:=k) (k:=(zs.filter fun z => !ya n z).length) (ys:=(zs.filter fun z => !ya n z)++List.replicate (zs.length-(zs.filter fun z => !ya n z).length) 0) h (by
   have:=List.length_filter_le (fun z => !ya n z) zs;rw [List.length_append,List.length_replicate];omega) (List.length_filter_le _ _)
  rw [List.take_left] at this;unfold Ri;simp only [List.size_toArray];exact this
theorem zju {B:Nat}{ao:Option Addr}{c:Nat}{zs:List Int}{w:World}(h:Ri B ao c zs w) (hl:zs.length≤100000) :
  Calls prog 52 #[.slice ao zs.length c] w fun e w'=>e=.returned (.tuple #[])∧Ri B ao c (zs.mergeSort fun x y=>decide (x≤y)) w'∧Below B w w':=by
 by_cases h0:zs=[]
 ·subst h0
  refine (Any.slices_Sort_int_none zj5 ao c w).mono ?_;rintro e w' ⟨rfl,rfl⟩;exact ⟨rfl,by simpa using h,Below.refl _ _⟩
 ·obtain ⟨g,rfl,hb,hg,hzc,hH⟩:=h.some h0
  refine (Any.slices_Sort_int zj5 g 0 c zs w hH hg (by omega)).mono ?_;rintro e w' ⟨rfl,k,os,rfl⟩;refine ⟨rfl,?_,?_⟩
  ·rcases h.2 with ⟨e0,_⟩ | ⟨g',cap',cur,e0,hb',hg',hn,hm,hs,ht⟩
   ·cases e0
   ·injection e0 with e1 _ e3
    injection e1 with e1;injection e1 with e1;subst e1;subst e3;have:=ownsRow_sortedI (n:=k) (os:=os) (ts:=zs.mergeSort fun x y=>decide (x≤y)) (ss:=zs) (List.length_mergeSort zs) hb hg' hn hm hs;unfold Ri;rw [List.length_mergeSort];exact this
  ·have hgr:=grownBy_sortedI (w:=w) (g:=g) (n:=k) (os:=os) (zs.mergeSort fun x y=>decide (x≤y)).toArray
   exact ⟨hgr.os,hgr.tape,hgr.output,hgr.size,fun j hj=>hgr.block j (by omega) fun e=>by injection e;omega⟩
theorem zhI {B:Nat}{ao:Option Addr}{c:Nat}{zs:List Int}{w:World}(h:Ri B ao c zs w) (hl:zs.length≤100000) :
  Calls prog 53 #[.slice ao zs.length c] w fun e w'=>e=.returned (.slice ao (Lib.compact zs).length c)∧Ri B ao c (Lib.compact zs) w'∧Below B w w':=by
 by_cases h0:zs=[]
 ·subst h0
  refine (Any.slices_Compact_int_empty zjZ ao c w).mono ?_;rintro e w' ⟨rfl,rfl⟩;exact ⟨rfl,h,Below.refl _ _⟩
 ·obtain ⟨g,rfl,hb,hg,hzc,hH⟩:=h.some h0
  refine (Any.slices_Compact_int zjZ g 0 c zs w hH (by omega) hzc).mono ?_;rintro e w' ⟨rfl,k,rfl⟩;refine ⟨rfl,?_,Lib.below_putRow (Below.refl _ _) hb⟩;have hcl:=kF (zs:=zs);have:=Lib.ownsRow_putRow (enc:=Value.int .i64) (q:=k) (k:=(Lib.compact zs).length) (ys:=Lib.compact zs++List.replicate (zs.length-(Lib.compact zs).length) 0) h (by
   rw [List.length_append,List.length_replicate];omega) hcl
  rw [List.take_left] at this;exact this
def zkG (n:Nat) (zs:List Int) (w:World) (e:Ending) (w':World):Prop:=∃ g c,e=.returned (.slice (some ⟨g,0,none⟩) (x6 n zs).length c)∧IS w' (some ⟨g,0,none⟩) (Y.ints (x6 n zs))∧(x6 n zs).length≤c∧Below w.heap.size w w'
theorem zeJ {w:World}{B:Nat}{v:Value}{zs:List Int}{n:Nat}(hn:n=zs.length) (h:w.ownsRow B 3 1 v n (zs.map (Value.int .i64))) (h0:zs≠[]):∃ g c,v=.slice (some ⟨g,0,none⟩) n c∧IS w (some ⟨g,0,none⟩) zs∧zs.length≤c:=by
 subst hn;obtain ⟨ao,c,rfl⟩:=zr h;obtain ⟨g,rfl,_,_,hc,hH⟩:=Ri.some h h0;refine ⟨g,c,rfl,.inr ⟨g,0,rfl,fun j hj=>?_⟩,hc⟩;have:=(hH j (by simpa using hj)).1;rw [this];rw [jd hj,List.getD_eq_getElem?_getD,List.getElem?_eq_getElem hj];rfl
theorem zcX (w:World) (z:Int):zI (w.alloc (.cells #[.int .i64 z] 3)) (.slice (some ⟨w.heap.size,0,none⟩) 1 1) 1 [.int .i64 z]:=by
 refine .inr ⟨_,1,rfl,fun j u hu=>?_⟩;rw [Addr.add_lit,Nat.zero_add,(Blk.made w 3 _).cell];simpa using hu
theorem zhT {w:World}{zo:Option Addr}{zc n:Nat}{zs:List Int}(h:IS w zo zs) (hl:zs.length≤1000) (hn:n≤1000000):Calls prog 33 #[.int .i64 (n:Nat),.slice zo zs.length zc] w (zkG n zs w):=by
 have HCL:=J (zg1 (zc:=zc) h (by omega));have HZL:=J hl;obtain ⟨L,hL⟩:=exq (zs.length);have HL:=J hL;rw [←hL] at HCL ⊢;have e1:IntKind.i64.wrap ((n:Int)-1)=(n:Int)-1:=by rw [IntKind.wrap_i64];omega
 clear h hl hL;go_enter func33,ntmps33;go_wp2_with fail
 refine HCL.out.mono ?_;rintro e w1 ⟨ao,c,rfl,ho,hb⟩;have O1:=J ho;have B1:=J hb;clear ho hb HCL;go_wp2_with fail
 refine (Xn 1 ((n:Int)-1) w1).mono ?_;rintro e w2 ⟨p,q,rfl,hK,hb,hp,hq⟩;have O2:Hid (Ri w.heap.size ao c zs w2):=J (ownsRow_below O1.out hb);have B2:=J (B1.out.on hb);have D2:=J (zj6 (n:=n) O2.out (by have:=HZL.out;omega) hK fun g e=>by
  subst e;have:=O1.out.lt g rfl;omega)
 rw [←HL.out] at D2;unfold fnO at D2;unfold fnO;clear hK hb hp hq O1 O2 B1;go_wp2_with fail
 with_reducible refine D2.out.mono ?_
 rintro e w3 ⟨rfl,ho,hb⟩;obtain ⟨fs,hfs⟩:=exq (zs.filter fun z => !ya n z)
 have hfl:fs.length≤1000:=by
  have:=List.length_filter_le (fun z => !ya n z) zs;have:=HZL.out;rw [hfs];omega
 rw [←hfs] at ho ⊢;have HFS:=J hfs;have B3:=J (B2.out.trans hb);have S3:=J (zju ho (by omega));have HFL:=J hfl;obtain ⟨M,hM⟩:=exq (fs.length);have HM:=J hM;rw [←hM] at S3 ⊢;clear ho hb hfs hM hfl D2 B2;go_wp2_with fail
 with_reducible refine S3.out.mono ?_
 rintro e w4 ⟨rfl,ho,hb⟩;obtain ⟨ss,hss⟩:=exq (fs.mergeSort fun x y=>decide (x≤y))
 have hsl:ss.length=M:=by rw [hss,List.length_mergeSort,HM.out]
 rw [←hss] at ho;have HSS:=J hss;have B4:=J (B3.out.trans hb);have C4:=J (zhI ho (by have:=HFL.out;have:=HM.out;omega));rw [hsl] at C4;have HSL:=J hsl;clear ho hb hss hsl S3 B3;go_wp2_with fail
 with_reducible refine C4.out.mono ?_
 rintro e w5 ⟨rfl,ho,hb⟩;obtain ⟨cs,hcs⟩:=exq (Lib.compact ss);rw [←hcs] at ho ⊢;have HCS:Hid (cs=kj n zs):=J (by rw [hcs,HSS.out,HFS.out];rfl);have B5:=J (B4.out.trans hb);have O5:=J ho;have hkl:cs.length≤1000:=by
  have:=kF (zs:=ss);have:=HSL.out;have:=HM.out;have:=HFL.out;rw [hcs];omega
 obtain ⟨K,hK⟩:=exq (cs.length);have HK:=J hK;have OW:Hid (w5.ownsRow w.heap.size 3 1 (.slice ao K c) K (cs.map (Value.int .i64))):=J (by rw [hK];exact O5.out);rw [←hK] at hkl ⊢;clear ho hb hcs hK C4 B4 O5;have hsz:=B5.out.size;go_wp2_with (refine ze kg rfl (.tmp 15) (.tmp 17) rfl w.heap.size (.slice ao K c) (.slice (some ⟨w5.heap.size,0,none⟩) 1 1) K 1 (cs.map (Value.int .i64)) [.int .i64 (n:Nat)] rfl rfl (World.ownsRow.alloc (w:=w5) OW.out _) (zcX w5 _) rfl (fun u hu=>by rw [List.mem_singleton.1 hu];rfl) (by simp;omega) (by omega) (by omega) ?_;intro ao2 cc2 w6 hA;have HA:=J hA;clear hA);go_ret;have hcm:cs.map (Value.int .i64)++[.int .i64 (n:Nat)]=(cs++[(n:Int)]).map (Value.int .i64):=by simp
 have ho:=HA.out.own;rw [hcm] at ho;have hb6:Below w.heap.size w w6:=B5.out.trans ((HA.out.alloc).below OW.out hsz);obtain ⟨g,c',he,hI,hc'⟩:=zeJ (by rw [List.length_append,←HK.out];rfl) ho (by simp);have hlen:(x6 n zs).length=K+1:=by
  have:=congrArg List.length (KB n zs);rw [Y.zj,List.length_append,←HCS.out,←HK.out] at this;exact this
 refine ⟨g,c',by rw [hlen];exact congrArg _ he,?_,?_,hb6⟩
 ·rw [KB,←HCS.out];exact hI
 ·rw [hlen];rw [List.length_append,←HK.out] at hc';exact hc'
end
section
open Go.Lib renaming hid → J
open Go.RowKit
theorem y6 (ao:Option Addr) (c:Nat) (hac:ao=none→c=0){w:World}{q ce:Nat}(hq:w.cell? ⟨q,0,none⟩=some (.int .i64 0)) :
  Calls prog 32 #[.slice ao 0 c,.slice (some ⟨q,0,none⟩) 1 ce] w (Kept w (qz (xg 0 [] true))):=by
 have HAC:=J hac;have HQ:=J hq;clear hac hq;go_enter func32,ntmps32;go_wp2_with fail
 refine (jV w).mono ?_;rintro e w1 ⟨pw,rfl,hw,hbl⟩;have W1:=J hw;have B1:=J hbl;clear hw hbl;go_upto_region 2 with fail
 obtain ⟨w2,hw2⟩:=exq (w1.alloc (.cells #[.pointer (some ⟨pw,0,none⟩),.slice none 0 0,.slice none 0 0,.pointer none,.pointer none] 91));obtain ⟨pk,hpk⟩:=exq (w1.heap.size);have B12:Hid (Below w1.heap.size w1 w2):=J (by rw [hw2];exact (Below.refl _ _).alloc (Nat.le_refl _) _);have PK2:Hid (PkO w2 pk pw):=J ⟨_,by rw [hw2,hpk];exact Blk.made _ _ _,rfl⟩;have W2:=J (W1.out.grow B12.out);have B2:=J (B1.out.on B12.out);rw [←hw2,←hpk];clear hw2 hpk B12 W1 B1;have q2:=(B2.out.cell (p:=⟨q,0,none⟩) (World.block_lt_of_cell? w _ HQ.out)).trans HQ.out;have HSN:=J (yF ao c HAC.out W2.out PK2.out (Nat.zero_le _) true);have HSC:Hid (Calls prog 48 #[.pointer (some ⟨pk,0,none⟩),.slice ao 0 c,.bool true] w2 fun e w'=>e=.returned (.tuple #[])∧∃ W3,W3=w'∧PkO W3 pk pw∧(∃ g1,Wq W3 w.heap.size pw g1 (xg 0 [] true))∧Below w.heap.size w2 W3):=J (HSN.out.mono fun e w' k=>by
  have hq:Pq w2 w.heap.size pw none (xg 0 [] true) w':=by
   have:=k.2;rw [List.nil_append] at this;rw [x4 0 true (Nat.zero_le _)];exact this
  obtain ⟨g1,hw1,_⟩:=hq.then;exact ⟨k.1,w',rfl,PK2.out.keep W2.out hq,⟨g1,hw1⟩,zt.low hq W2.out⟩)
 clear HSN;rcases ao with _ | ad
 ·obtain rfl:c=0:=HAC.out rfl
  go_wp2_with fail
  refine wp_loop_rounds 2 ?_;rw [rounds_succ];go_wp2_with fail
  with_reducible refine HSC.out.mono ?_
  rintro e' w4 ⟨rfl,W3,rfl,hpk,⟨g1,hw1⟩,hlow⟩;have c0:=hpk.cell;have HL:=J hlow;have HO:=J (Wq.out hw1 (jo 0 true Bs.nil) (by have:=uc 0 [] true;simp at this;omega));clear hpk hw1 hlow HSC;go_wp2_with fail
  rw [rounds_succ];go_wp2_with fail
  with_reducible refine HO.out.mono ?_
  rintro e' w5 ⟨ao,c,rfl,hown,hbl⟩;have HF:=J (And.intro hown hbl);clear hown hbl HO;go_wp2;go_ret;have hb1:=B2.out.trans HL.out;exact ⟨ao,c,rfl,zz HF.out.1 hb1.size,hb1.trans (HF.out.2.mono hb1.size)⟩
 ·go_wp2_with fail
  refine wp_loop_rounds 2 ?_;rw [rounds_succ];go_wp2_with fail
  with_reducible refine HSC.out.mono ?_
  rintro e' w4 ⟨rfl,W3,rfl,hpk,⟨g1,hw1⟩,hlow⟩;have c0:=hpk.cell;have HL:=J hlow;have HO:=J (Wq.out hw1 (jo 0 true Bs.nil) (by have:=uc 0 [] true;simp at this;omega));clear hpk hw1 hlow HSC;go_wp2_with fail
  rw [rounds_succ];go_wp2_with fail
  with_reducible refine HO.out.mono ?_
  rintro e' w5 ⟨ao,c,rfl,hown,hbl⟩;have HF:=J (And.intro hown hbl);clear hown hbl HO;go_wp2;go_ret;have hb1:=B2.out.trans HL.out;exact ⟨ao,c,rfl,zz HF.out.1 hb1.size,hb1.trans (HF.out.2.mono hb1.size)⟩
theorem uZ {w:World}(ao:Option Addr) (c:Nat) (hac:ao=none→c=0):Calls prog 17 #[.slice ao 0 c] w (Kept w (jY [])):=by
 obtain ⟨w1,hw1⟩:=exq (w.alloc (.cells #[.int .i64 0] 3));obtain ⟨q,hq⟩:=exq (w.heap.size);have B1:Hid (Below w.heap.size w w1):=J (by rw [hw1];exact (Below.refl _ _).alloc (Nat.le_refl _) _);have h:=y6 (ce:=1) ao c hac (w:=w1) (q:=q) (by rw [hw1,hq,(Blk.made w 3 _).cell];rfl);rw [kI Bs.nil] at h;have HC:=J h;clear h hac;go_enter func17,ntmps17;go_wp2_with fail
 rw [←hw1,←hq];clear hw1 hq;with_reducible refine HC.out.mono ?_
 rintro e' w4 ⟨ao,c,rfl,hown,hbl⟩;have HF:=J (And.intro hown hbl);clear hown hbl HC;go_wp2;go_ret;exact ⟨ao,c,rfl,zz HF.out.1 B1.out.size,B1.out.on HF.out.2⟩
theorem zaJ {w:World}{v:Value}{bs:List Nat}(hs:zi w v bs) (hb:Bs bs) (hl:bs.length≤300000):Calls prog 17 #[v] w (Kept w (jY bs)):=by
 by_cases h0:0<bs.length
 ·obtain ⟨b,off,c,rfl,hc,_⟩:=hs.at h0
  exact XK hs hb hl h0 hc
 ·have hn:bs=[]:=QQ0 (by omega)
  subst hn;rcases hs with ⟨rfl,_⟩ | ⟨ad,c,rfl,_,_⟩
  ·exact uZ none 0 fun _=>rfl
  ·exact uZ (some ad) c fun h=>by cases h
def vh:List Nat→Nat→Nat
 | [],_=>0
 | e::es,a=>bnd (e-a)+vh es e
theorem zhx (ends:List Nat){i:Nat}(hi:i<ends.length):vh (ends.drop i) (atF ends i)=bnd (ends.getD i 0-atF ends i)+vh (ends.drop (i+1)) (atF ends (i+1)):=by
 have e:ends.getD i 0=ends[i]:=by rw [List.getD_eq_getElem?_getD,List.getElem?_eq_getElem hi];rfl
 have e2:atF ends (i+1)=ends[i]:=by unfold atF;rw [if_neg (by omega),Nat.add_sub_cancel,e]
 rw [List.drop_eq_getElem_cons hi,vh,e2,e]
theorem zcZ {w:World}{ce:Nat}{ends:List Nat}{eo:Option Addr}(hi:IS w eo (Y.ints ends)) (hE:∀ i,i<ends.length→atF ends i≤ends.getD i 0∧ends.getD i 0≤300000) (hel:ends.length≤1000) :
  Calls prog 35 #[.slice eo ends.length ce] w fun e w'=>e=.returned (.int .i64 (vh ends 0:Nat))∧Below w.heap.size w w':=by
 obtain ⟨L,hL⟩:=exq (ends.length);have HL:=J hL;have HE:=J hE;have HI:=J hi;obtain ⟨T,hT⟩:=exq (vh ends 0);have HT:=J hT;rw [←hT,←hL];rw [←hL] at hel;clear hL hE hi hT;go_enter func35,ntmps35;go_wp2_with fail
 go_loopw [3,4,9] (fun v3 v4 v9 wr=>∃ (i s:Nat),i≤L∧v3=.int .i64 (s:Nat)∧v4=.int .i64 (atF ends i:Nat)∧v9=.int .i64 (i:Nat)∧s≤i*300100∧Hid (s+vh (ends.drop i) (atF ends i)=T)∧Hid (Below w.heap.size w wr)) (fun _ _ v9 _=>L-(intOf v9).toNat)
 case atStart=>exact ⟨0,0,Nat.zero_le _,rfl,rfl,rfl,Nat.zero_le _,J (by rw [HT.out,Nat.zero_add];rfl),J (Below.refl _ _)⟩
 case round=>
  obtain ⟨i,s,hi,rfl,rfl,rfl,hs,HX,HB⟩:=hrel;obtain ⟨a,ha⟩:=exq (atF ends i);have HA:=J ha;rw [←ha];clear ha;by_cases hlt:i<L
  ·have hlt':(i:Int)<L:=by omega
   have hie:i<ends.length:=by rw [←HL.out];exact hlt
   obtain ⟨e,he⟩:=exq (ends.getD i 0);have hae:=HE.out i hie;rw [←HA.out,←he] at hae;obtain ⟨hae1,hae2⟩:=hae;obtain ⟨bi,oi,rfl,q1⟩:=(IS.below HI.out HB.out).at (show i<(Y.ints ends).length by rw [Y.zj];exact hie);rw [Y.ints_at,←he] at q1;obtain ⟨m,hm⟩:=exq (e-a);obtain ⟨B,hB⟩:=exq (bnd m);have hB3:B≤300100:=by rw [hB];unfold bnd;omega
   have HG:Hid (s+B+vh (ends.drop (i+1)) (atF ends (i+1))=T):=J (by have:=HX.out;rw [zhx ends hie,←HA.out,←he,←hm,←hB] at this;omega);have HA2:Hid (atF ends (i+1)=e):=J (by unfold atF;rw [if_neg (by omega),Nat.add_sub_cancel,he]);have hmi:(e:Int)-a=(m:Int):=by omega
   have HBD:Hid (∀ W,Calls prog 14 #[.int .i64 (m:Nat)] W fun e w'=>e=.returned (.int .i64 (B:Nat))∧Below W.heap.size W w'):=J fun W=>by rw [hB];exact vQ W m (by omega)
   have hs9:s≤300100000:=by
    have:=Nat.mul_le_mul_right 300100 (show i≤1000 by omega);omega
   have hs2:s+B≤(i+1)*300100:=by rw [Nat.add_mul];omega
   have HS2:=J hs2;have hm9:m≤300000:=by omega
   clear hm hB he hie hs hs2;go_wp2_with fail
   with_reducible refine (HBD.out _).mono ?_
   rintro e' w4 ⟨rfl,hb⟩;have HB4:=J (HB.out.on hb);clear hb;go_wp2;go_roundw;case rel=>exact ⟨i+1,s+B,by omega,by go_num,by rw [HA2.out],by go_num,HS2.out,HG,HB4⟩
   case measure=>simp [intOf];omega
  ·obtain rfl:i=L:=by omega
   have HPE:Hid (s=T):=J (by
    have h5:=HX.out;rw [HL.out,List.drop_length] at h5;exact h5)
   clear hs;go_wp2;go_ret;exact ⟨by rw [←HPE.out];rfl,HB.out⟩
theorem UB {w:World}{bo:Option Addr}{cb q ce:Nat}(level:Int) (hlev:0<level) (hTM:V.yc w) (hTD:kD w) (hbo:bo=none→cb=0) (hq:w.cell? ⟨q,0,none⟩=some (.int .i64 0)) :
  Calls prog 34 #[.slice bo 0 cb,.int .i64 level,.slice (some ⟨q,0,none⟩) 1 ce] w (Kept w (qz (xq 0 [] [] true))):=by
 have HTD:=J hTD;have hz:2≤w.heap.size:=World.block_lt_of_cell? w _ (hTD 0 (by decide));have HTM:=J hTM;have HQ:=J hq;have HSB:Hid (∀ W,zi W (.slice bo 0 cb) []):=J fun W=>by
  rcases bo with _ | ad
  ·obtain rfl:=hbo rfl
   exact .inl ⟨rfl,rfl⟩
  ·exact .inr ⟨ad,cb,rfl,Nat.zero_le _,fun j u hu=>by simp [u8s] at hu⟩
 have HBO:=J hbo;clear hTM hTD hbo hq;go_enter func34,ntmps34;go_wp2_with fail
 refine (JJ w).mono ?_;rintro e w1 ⟨pk,pw,lb,db,lc,dc,c1,c2,rfl,hw,hp,hbl⟩;have W1:=J hw;have P1:=J hp;have B1:=J hbl;clear hw hp hbl;have HF:=J (V.jm w1 (.slice bo 0 cb) [] level (V.yc.keep HTM.out B1.out) (HSB.out w1) Bs.nil (by decide));go_wp2_with fail
 refine HF.out.mono ?_;rintro e w2 ⟨ao,c,r,rfl,hks,hbl,hrc,hex,hlit,_,_,hrF⟩;have hr:r=[]:=by
  have h1:=V.M.xk hex;have h2:=V.M.xX r;simp at h1;exact QQ0 (by omega)
 subst hr;obtain rfl:ao=none:=hrc.2.2 hlev rfl;obtain rfl:c=0:=hrc.2.1 rfl;have W2:=J (W1.out.grow hbl);have P2:=J (P1.out.grow hbl);have B2:=J (B1.out.on hbl);have q2:=(B2.out.cell (p:=⟨q,0,none⟩) (World.block_lt_of_cell? w _ HQ.out)).trans HQ.out;clear hks hbl hrc hex hlit hrF HF W1 P1 B1;go_wp2_with fail
 refine (KR _ _ _ _ _ _ _).mono ?_;rintro e w3 ⟨rfl,rfl⟩;have HUP:Hid (Calls prog 57 #[.slice none 0 0,.int .i64 0] w3 fun e w'=>e=.returned (.tuple #[.int .i64 0,.int .i64 0])∧Below w3.heap.size w3 w'):=J (Uv (ao:=none) (cr:=0) (r:=[]) 0 (.inl rfl) (by decide) (fun t h=>by cases h) (by decide))
 have HPB:Hid (∀ w5,Below w3.heap.size w3 w5→Calls prog 58 #[.pointer (some ⟨pk,0,none⟩),.slice none 0 0,.slice bo 0 cb,.bool true] w5 fun e w'=>e=.returned (.tuple #[])∧Pq w3 w.heap.size pw none (xq 0 [] [] true) w'):=J fun w5 hb5=>by
  have:=Jg (cr:=0) (cb:=cb) (bo:=bo) (ao:=none) (r:=[]) (b:=[]) (W2.out.grow hb5) (P2.out.grow hb5) ((HTD.out.grow B2.out).grow hb5) hz (Nat.zero_le _) (.inl rfl) (fun b off e=>by cases e) (fun b off e=>by cases e) (by decide) (fun t h=>by cases h) (HSB.out w5) (fun h=>by cases h) Bs.nil (by decide) true;refine this.mono ?_;rintro e w' ⟨rfl,hq⟩;exact ⟨rfl,Pq.back hb5 hq⟩
 go_wp2_with fail
 refine wp_loop_rounds 2 ?_;rw [rounds_succ];go_wp2_with fail
 refine wp_loop_rounds 2 ?_;rw [rounds_succ];go_wp2_with fail
 with_reducible refine HUP.out.mono ?_
 rintro e' w5 ⟨rfl,hb5⟩;have HPB5:=J (HPB.out w5.drew (hb5.on (zf w5)));have HB5:=J hb5;clear hb5 HUP HPB;have hcb:cb=0∨¬cb=0:=by omega
 have hpos:bo=none∧cb=0∨∃ ad:Addr,bo=some ad:=by
  rcases bo with _ | ad
  ·exact .inl ⟨rfl,HBO.out rfl⟩
  ·exact .inr ⟨ad,rfl⟩
 have HWO:Hid (∀ w',Pq w3 w.heap.size pw none (xq 0 [] [] true) w'→w'.cell? ⟨pk,0,none⟩=some (.pointer (some ⟨pw,0,none⟩))∧Calls prog 49 #[.pointer (some ⟨pw,0,none⟩)] w' (fun e w2=>∃ a c,e=.returned (.slice a (qz (xq 0 [] [] true)).length c)∧Kept w (qz (xq 0 [] [] true)) (.returned (.slice a (qz (xq 0 [] [] true)).length c)) w2)):=J fun w' hq=>by
  obtain ⟨g1,hw1,_⟩:=hq.then;refine ⟨(P2.out.keep W2.out hq).a.o.cell,?_⟩;refine (Wq.out hw1 (XJ (pos:=0) (r:=[]) (b:=[]) true (fun t h=>by cases h) Bs.nil (by decide)) (by
   have:=Jn (pos:=0) (r:=[]) (b:=[]) true (fun t h=>by cases h) (by decide);have h2:jF 0 ([]:List Nat).length=40:=by decide
   omega)).mono ?_
  rintro e' w4 ⟨ao',c',rfl,hown,hbl⟩;have hb1:Below w.heap.size w w':=B2.out.trans (zt.low hq W2.out);exact ⟨ao',c',rfl,ao',c',rfl,zz hown hb1.size,hb1.trans (hbl.mono hb1.size)⟩
 clear HTM HQ HSB HTD W2 P2 B2 HB5;have hw0:IntKind.i64.wrap (0:Int)=0:=by rw [IntKind.wrap_i64];decide
 rcases hpos with ⟨rfl,rfl⟩ | ⟨⟨xb,xo,xs⟩,rfl⟩
 ·clear hcb
  go_wp2_with fail
  go_still_tail 16,(by kernel_rfl)
  change wpList _ _ _ _ _ w5.drew;go_wp2_with fail
  with_reducible refine HPB5.out.mono ?_
  rintro e' w6 ⟨rfl,hq⟩;obtain ⟨c0,hwo⟩:=HWO.out w6 hq;have HC:=J hwo;clear hq hwo;go_wp2_with fail
  rw [rounds_succ];go_wp2_with fail
  rw [rounds_succ];go_wp2_with fail
  with_reducible refine HC.out.mono ?_
  rintro e' w7 ⟨a,c,rfl,hk⟩;have HK:=J hk;clear hk;go_wp2;go_ret;exact HK.out
 ·rcases hcb with rfl | hcb
  all_goals
   go_wp2_with fail
   go_still_tail 16,(by kernel_rfl)
   change wpList _ _ _ _ _ w5.drew;go_wp2_with fail
   with_reducible refine HPB5.out.mono ?_
   rintro e' w6 ⟨rfl,hq⟩;obtain ⟨c0,hwo⟩:=HWO.out w6 hq;have HC:=J hwo;clear hq hwo;go_wp2_with fail
   rw [rounds_succ];go_wp2_with fail
   rw [rounds_succ];go_wp2_with fail
   with_reducible refine HC.out.mono ?_
   rintro e' w7 ⟨a,c,rfl,hk⟩;have HK:=J hk;clear hk;go_wp2;go_ret;exact HK.out
theorem zhl (level:Int):V.qb [] level=[]:=by
 have h:=(yW (bs:=[]) level Bs.nil (by decide)).1;have h1:=V.M.xk h;have h2:=V.M.xX (V.qb [] level);simp at h1;exact QQ0 (by omega)
theorem zkX:(pkS [] [0] ⟨[],0,[]⟩).P=xq 0 [] [] true:=zcP (bs:=[]) (r:=[]) rfl (by decide)
theorem U4:∀ (ends:List Nat),Ends 0 ends→ends=[0]:=by
 intro ends h;have hz:∀ e∈ends,e=0:=fun e he=>Nat.le_zero.1 (h.pos e he).1
 match ends,h.asc,h.last,hz with
 | [],_,hl,_=>simp at hl
 | [x],_,_,hz=>rw [hz x (List.mem_singleton_self _)]
 | x::y::r,ha,_,hz=>
  have h1:=(List.pairwise_cons.1 ha).1 y (by simp);have h2:=hz x (by simp);have h3:=hz y (by simp);omega
theorem zbv {w:World}{v:Value}{q ce:Nat}{bs ends:List Nat}(level:Int) (hlev:0<level) (hTM:V.yc w) (hTD:kD w) (hs:zi w v bs) (hb:Bs bs) (hl:bs.length≤5000)
  (hi:IS w (some ⟨q,0,none⟩) (Y.ints ends)) (hE:Ends bs.length ends) (hce:ends.length≤ce) (hel:ends.length≤1000) :
  Calls prog 34 #[v,.int .i64 level,.slice (some ⟨q,0,none⟩) ends.length ce] w fun e w'=>∃ R,AP bs ends R∧(ends.length=1→R=V.qb bs level)∧Kept w (qz (pkS bs ends ⟨R,0,[]⟩).P) e w':=by
 by_cases h0:0<bs.length
 ·obtain ⟨b,off,c,rfl,hc,_⟩:=hs.at h0
  have h1:1≤ends.length:=by
   rcases Nat.eq_zero_or_pos ends.length with h | h
   ·have:=hE.last
    rw [QQ0 h] at this;simp at this
   ·exact h
  exact XW level hTM hTD hs hb hl h0 hc hi hE hce h1 hel
 ·obtain rfl:bs=[]:=QQ0 (by omega)
  obtain rfl:=U4 ends hE;have q0:w.cell? ⟨q,0,none⟩=some (.int .i64 0):=by
   obtain ⟨bi,oi,hbo,q1⟩:=hi.at (show 0<(Y.ints [0]).length by decide);cases hbo;exact q1
  obtain ⟨bo,cb,rfl,hbo⟩:∃ bo cb,v=.slice bo 0 cb∧(bo=none→cb=0):=by
   rcases hs with ⟨rfl,_⟩ | ⟨ad,c,rfl,_⟩
   ·exact ⟨none,0,rfl,fun _=>rfl⟩
   ·exact ⟨some ad,c,rfl,fun h=>by cases h⟩
  refine (UB level hlev hTM hTD hbo q0).mono ?_;intro e w' hk;refine ⟨[],zbb rfl (fun t h=>by cases h),fun _=>(zhl level).symm,?_⟩
  rw [zkX];exact hk
theorem zfT {w:World}{v:Value}{q ce:Nat}{bs ends:List Nat}(hs:zi w v bs) (hb:Bs bs) (hl:bs.length≤5000) (hi:IS w (some ⟨q,0,none⟩) (Y.ints ends)) (hE:Ends bs.length ends) (hel:ends.length≤1000) :
  Calls prog 32 #[v,.slice (some ⟨q,0,none⟩) ends.length ce] w (Kept w (qz (stU bs ends 0 []))):=by
 by_cases h0:0<bs.length
 ·obtain ⟨b,off,c,rfl,hc,_⟩:=hs.at h0
  refine vf hs hb (by omega) hc hi (fun i hi'=>?_) hel;have h1:=xK hE hi';refine ⟨?_,h1.1⟩;unfold atF;split
  ·rename_i hz
   subst hz;have h4:ends.getD 0 0∈ends:=by rw [List.getD_eq_getElem?_getD,List.getElem?_eq_getElem hi'];exact List.getElem_mem hi'
   have:=(hE.pos _ h4).2;omega
  ·have:=(xK hE (show i-1<ends.length by omega)).2.1 (by omega)
   rwa [show i-1+1=i by omega] at this
 ·obtain rfl:bs=[]:=QQ0 (by omega)
  obtain rfl:=U4 ends hE;have q0:w.cell? ⟨q,0,none⟩=some (.int .i64 0):=by
   obtain ⟨bi,oi,hbo,q1⟩:=hi.at (show 0<(Y.ints [0]).length by decide);cases hbo;exact q1
  obtain ⟨bo,cb,rfl,hbo⟩:∃ bo cb,v=.slice bo 0 cb∧(bo=none→cb=0):=by
   rcases hs with ⟨rfl,_⟩ | ⟨ad,c,rfl,_⟩
   ·exact ⟨none,0,rfl,fun _=>rfl⟩
   ·exact ⟨some ad,c,rfl,fun h=>by cases h⟩
  exact y6 bo cb hbo q0
theorem zeQ {bs:List Nat}(hb:Bs bs) (hl:bs.length≤65535){a e k:Nat}{P:List (Nat × Nat)}(hnl:NL bs.length P (bs.take a) k) (hf:xI P) (hae:a≤e) (he:e≤bs.length) (last:Bool) :
  (last=false→NL bs.length (P++xg (wid P) ((bs.drop a).take (e-a)) last) (bs.take e) (k+1))∧xI (P++xg (wid P) ((bs.drop a).take (e-a)) last)∧
   (last=true→e=bs.length→∀ out,jL out (P++xg (wid P) ((bs.drop a).take (e-a)) last)→∃ st,infl out bs.length=.ok () ⟨wid (P++xg (wid P) ((bs.drop a).take (e-a)) last),bs,st,k+1⟩):=by
 have hlen:((bs.drop a).take (e-a)).length=e-a:=by rw [List.length_take,List.length_drop];omega
 have hb2:Bs ((bs.drop a).take (e-a)):=fun x h=>hb x (List.mem_of_mem_drop (List.mem_of_mem_take h))
 have hs:xg (wid P) ((bs.drop a).take (e-a)) last=xe (wid P) ((bs.drop a).take (e-a)) last:=x4 _ last (by omega);have ht:bs.take e=bs.take a++(bs.drop a).take (e-a):=by
  have:=List.take_add (l:=bs) (i:=a) (j:=e-a);rwa [show a+(e-a)=e by omega] at this
 have hB:=yr (lim:=bs.length) (pos:=wid P) (o:=bs.take a) last hb2 (by omega) (by rw [List.length_take,hlen];omega);rw [←hs,←ht] at hB;refine ⟨fun h=>?_,hf.app (jo _ _ hb2),fun h he' out ho=>?_⟩
 ·subst h;exact hnl.snoc hB
 ·subst h
  obtain ⟨st,h1⟩:=hnl.done hB ho;rw [he',List.take_length] at h1;rw [he'];exact ⟨st,h1⟩
theorem zlu {bs:List Nat}(hb:Bs bs) (hl:bs.length≤65535):∀ (es:List Nat) (a k:Nat) (P:List (Nat × Nat)),es.Pairwise (· < ·)→es.getLast? = some bs.length→(∀ e∈es,a≤e∧e≤bs.length)→NL bs.length P (bs.take a) k→xI P→
  xI (stU bs es a P)∧∀ out,jL out (stU bs es a P)→∃ st j,k+es.length≤j∧infl out bs.length=.ok () ⟨wid (stU bs es a P),bs,st,j⟩:=by
 intro es;induction es with
 | nil=>intro a k P _ h;simp at h
 | cons e es ih=>
  intro a k P hasc hlast hin hnl hf;obtain ⟨p1,p2⟩:=List.pairwise_cons.1 hasc;obtain ⟨q1,q2⟩:=hin e (List.mem_cons_self ..);obtain ⟨s1,s2,s3⟩:=zeQ hb hl hnl hf q1 q2 (decide (e=bs.length));rw [stU];rcases es with _ | ⟨e2,es⟩
  ·have he:e=bs.length:=by simpa using hlast
   rw [stU];refine ⟨s2,fun out ho=>?_⟩;obtain ⟨st,h⟩:=s3 (decide_eq_true he) he out ho;exact ⟨st,k+1,by simp,h⟩
  ·have hlt:e<bs.length:=by
    have:=p1 e2 (List.mem_cons_self ..);have:=(hin e2 (by simp)).2;omega
   obtain ⟨f1,f2⟩:=ih e (k+1) _ p2 (by rw [←hlast];rfl) (fun x hx=>⟨Nat.le_of_lt (p1 x hx),(hin x (List.mem_cons_of_mem _ hx)).2⟩) (s1 (decide_eq_false (by omega))) s2
   refine ⟨f1,fun out ho=>?_⟩;obtain ⟨st,j,h1,h2⟩:=f2 out ho;refine ⟨st,j,?_,h2⟩;simp only [List.length_cons] at h1 ⊢;omega
theorem zjA {n:Nat}(hn:n≤65535):∀ (es:List Nat) (a:Nat),a≤n→(∀ e∈es,e≤n)→es.Pairwise (· < ·)→(∀ e∈es,a≤e)→vh es a≤(n-a)+5*es.length:=by
 intro es;induction es with
 | nil=>intro a _ _ _ _;exact Nat.zero_le _
 | cons e es ih=>
  intro a ha hin hasc hlo;obtain ⟨p1,p2⟩:=List.pairwise_cons.1 hasc;have h1:=hin e (List.mem_cons_self ..);have h2:=hlo e (List.mem_cons_self ..);have h3:=ih e h1 (fun x hx=>hin x (List.mem_cons_of_mem _ hx)) p2 (fun x hx=>Nat.le_of_lt (p1 x hx));rw [vh,List.length_cons];have h4:bnd (e-a)=(e-a)+5:=by unfold bnd;omega
  omega
theorem zja (bs:List Nat):∀ (es:List Nat) (a:Nat) (P:List (Nat × Nat)),(∀ e∈es,e≤bs.length)→es.Pairwise (· < ·)→(∀ e∈es,a≤e)→a≤bs.length→wid (stU bs es a P)≤wid P+42*es.length+9*(bs.length-a):=by
 intro es;induction es with
 | nil=>intro a P _ _ _ _;show wid P≤_;omega
 | cons e es ih=>
  intro a P hin hasc hlo ha;obtain ⟨p1,p2⟩:=List.pairwise_cons.1 hasc;have h1:=hin e (List.mem_cons_self ..);have h2:=hlo e (List.mem_cons_self ..);have h3:=ih e (P++xg (wid P) ((bs.drop a).take (e-a)) (decide (e=bs.length))) (fun x hx=>hin x (List.mem_cons_of_mem _ hx)) p2 (fun x hx=>Nat.le_of_lt (p1 x hx)) h1;have h4:=uc (wid P) ((bs.drop a).take (e-a)) (decide (e=bs.length));rw [List.length_take,List.length_drop] at h4;rw [stU,List.length_cons];rw [zh] at h3;omega
section
variable {bs ends:List Nat}
theorem KQ (hb:Bs bs) (hl:bs.length≤5000) (hE:Ends bs.length ends) (hel:ends.length≤101){j:Nat}(hj:j≤ends.length):uR bs (qz (stU bs ends 0 [])) j:=by
 obtain ⟨f1,f2⟩:=zlu hb (by omega) ends 0 0 [] hE.asc hE.last (fun e he=>⟨Nat.zero_le _,(hE.pos e he).1⟩) (by rw [List.take_zero];exact NL.nil _) (fun c hc=>by cases hc)
 have hh:=xP f1;obtain ⟨st,k,h1,h2⟩:=f2 _ hh;have hw:=zja bs ends 0 [] (fun e he=>(hE.pos e he).1) hE.asc (fun e _=>Nat.zero_le _) (Nat.zero_le _);refine ⟨hh.1,?_,_,st,k,h2,(jl _).symm,by omega⟩;rw [jl];simp only [wid] at hw;omega
theorem zeg (hb:Bs bs) (hl:bs.length≤5000) (hE:Ends bs.length ends) (hel:ends.length≤101){R:List Tok}(hA:AP bs ends R) (hle:(qz (pkS bs ends ⟨R,0,[]⟩).P).length≤vh ends 0){j:Nat}(hj:j≤ends.length):uR bs (qz (pkS bs ends ⟨R,0,[]⟩).P) j:=by
 obtain ⟨k,h1,h2⟩:=uB hb (by omega) hE hA;have h3:=zjA (n:=bs.length) (by omega) ends 0 (Nat.zero_le _) (fun e he=>(hE.pos e he).1) hE.asc (fun e _=>Nat.zero_le _)
 exact KM h2 (by omega) (by omega)
end
theorem zgH (bs:List Nat) (level:Int):V.qb bs ((lv level:Nat):Int)=V.qb bs level:=by
 rw [←V.Uq bs level];congr 1
 unfold lv;omega
theorem zf8 (n:Nat):x6 n []=[n]:=by
 have h:=zaf n [];unfold x6;rw [QQ0 (Nat.le_zero.1 h)];rfl
def zlT (bs:List Nat) (level:Int) (zs:List Int) (w:World) (e:Ending) (w':World):Prop:=∃ out,Kept w out e w'∧uR bs out (fr bs.length zs+1)∧(zs=[]→out=uk bs (lv level))
theorem Jd {w:World}{v:Value}{bs:List Nat}(level:Int){ao:Option Addr}{c:Nat}{zs:List Int}(hTM:V.yc w) (hTD:kD w) (hs:zi w v bs) (hb:Bs bs) (hl:bs.length≤5000) (hi:IS w ao zs) (hz:zs.length≤100) :
  Calls prog 19 #[v,.int .i64 level,.slice ao zs.length c] w (zlT bs level zs w):=by
 obtain ⟨vo,vc,rfl⟩:=V.qp hs;have HTM:=J hTM;have HTD:=J hTD;have HS:=J hs;have HB:=J hb;have HL:=J hl;have HZ:=J hz;have HEN:=J (zhT (zc:=c) (n:=bs.length) hi (by omega) (by omega));obtain ⟨n,hn⟩:=exq (bs.length);obtain ⟨zl,hzl⟩:=exq (zs.length);have HN:=J hn;rw [←hn] at hl HEN ⊢;rw [←hzl] at HEN ⊢;clear hTM hTD hs hb hi hz hn hzl;go_enter func19,ntmps19;go_wp2_with fail
 refine HEN.out.mono ?_;rintro e w1 ⟨g,ec,rfl,hI,hec,hbl⟩;obtain ⟨ends,hends⟩:=exq (x6 n zs);rw [←hends] at hI hec ⊢;have HE:Hid (Ends bs.length ends∧fr n zs+1≤ends.length∧ends.length≤101∧(zs=[]→ends=[n])):=J (by
  have h1:=ziS n zs;have h2:=ze6 n zs;rw [←hends] at h1 h2;have:=HZ.out;exact ⟨by rw [←HN.out];exact h1,h2.1,by omega,fun h=>by rw [hends,h,zf8]⟩)
 have I1:=J hI;have EC:=J hec;have B1:=J hbl;have TM1:=J (V.yc.keep HTM.out hbl);have TD1:=J (HTD.out.grow hbl);have S1:=J (HS.out.grow hbl);have HST:=J (fun (W:World) (hW:Below w1.heap.size w1 W)=>zfT (ce:=ec) (S1.out.grow hW) HB.out HL.out (IS.below I1.out hW) HE.out.1 (by have:=HE.out.2.2.1;omega))
 have HSZ:=J (fun (W:World) (hW:Below w1.heap.size w1 W)=>zcZ (ce:=ec) (IS.below I1.out hW) (fun i hi=>by
  have h1:=xK HE.out.1 hi;have:=HL.out;refine ⟨?_,by omega⟩;unfold atF;split
  ·exact Nat.zero_le _
  ·have:=(xK HE.out.1 (show i-1<ends.length by omega)).2.1 (by omega)
   rw [show i-1+1=i by omega] at this;omega) (by have:=HE.out.2.2.1;omega))
 have HFS:Hid (zs=[]→∀ k:Nat,(k=0∨¬(qz (pkS bs [bs.length] ⟨V.qb bs (k:Int),0,[]⟩).P).length≤bnd bs.length)→qz (stU bs ends 0 [])=uk bs k):=J fun h k hk=>by
  rw [HE.out.2.2.2 h,HN.out];have e1:qz (stU bs [bs.length] 0 [])=jY bs:=by
   rw [←kI HB.out];simp [stU,wid]
  rw [e1];unfold uk;rcases hk with hk | hk
  ·rw [if_pos hk]
  ·split
   ·rfl
   ·first
     | rfl
     | rw [if_neg hk]
 rw [←HN.out] at S1 HST;clear hI hec hbl hends HEN;by_cases hlev:0<level
 ·have HP:=J (zbv (ce:=ec) level hlev TM1.out TD1.out S1.out HB.out HL.out I1.out HE.out.1 EC.out (by have:=HE.out.2.2.1;omega))
  have HLV:=J hlev;go_wp2_with fail
  with_reducible refine HP.out.mono ?_
  rintro e w2 ⟨R,hA,hRF,ao2,c2,rfl,hown,hb2⟩;obtain ⟨o1,ho1⟩:=exq (qz (pkS bs ends ⟨R,0,[]⟩).P);rw [←ho1] at hown ⊢;have HA:=J (And.intro hA (And.intro hRF ho1));have HOW:=J hown;have B2:=J hb2;have HSZ2:=J (HSZ.out w2 hb2);obtain ⟨sz,hsz⟩:=exq (vh ends 0);rw [←hsz] at HSZ2;have HSE:=J hsz;obtain ⟨l1,hl1⟩:=exq (o1.length);have HL1:=J hl1;rw [←hl1];clear hA hRF hown hb2 ho1 hsz hl1 HP HSZ hlev;go_wp2_with fail
  with_reducible refine HSZ2.out.mono ?_
  rintro e w3 ⟨rfl,hb3⟩;have B3:=J hb3;have B13:=J (B2.out.on hb3);clear hb3 HSZ2;have HD:Hid (zs=[]→(l1≤sz→o1=uk bs (lv level))∧(¬l1≤sz→qz (stU bs ends 0 [])=uk bs (lv level))):=J fun h=>by
   have he:=HE.out.2.2.2 h;have hr:=HA.out.2.1 (by rw [he];rfl);have ho:=HA.out.2.2;rw [hr,he,HN.out] at ho;have hsz:sz=bnd bs.length:=by rw [HSE.out,he,HN.out];rfl
   have hlv:lv level≠0:=by have:=zj8 (z:=level) (by have:=HLV.out;omega);omega
   have hfc:=zgH bs level;refine ⟨fun hle=>?_,fun hle=>HFS.out h _ (.inr ?_)⟩
   ·unfold uk
    rw [if_neg hlv,hfc,←ho,if_pos (by rw [←HL1.out,←hsz];exact hle)]
   ·rw [hfc,←ho,←HL1.out,←hsz];exact hle
  by_cases hle:l1≤sz
  ·have hle':(l1:Int)≤sz:=by omega
   have HLE:=J hle;clear hle;go_wp2;go_ret;have hk:=ownsRow_below HOW.out B3.out;refine ⟨o1,?_,?_,fun h=>(HD.out h).1 HLE.out⟩
   ·rw [HL1.out]
    exact ⟨ao2,c2,rfl,zz hk B1.out.size,B1.out.on B13.out⟩
   ·rw [HA.out.2.2]
    refine zeg HB.out HL.out HE.out.1 HE.out.2.2.1 HA.out.1 (by rw [←HA.out.2.2,←HL1.out,←HSE.out];exact HLE.out) ?_;rw [←HN.out];exact HE.out.2.1
  ·have hle':¬((l1:Int)≤sz):=by omega
   have HLE:=J hle;have HST3:=J (HST.out w3 B13.out);clear hle HST;go_wp2_with fail
   with_reducible refine HST3.out.mono ?_
   intro e w4 hk;obtain ⟨ao4,c4,rfl,hown4,hb4⟩:=hk;have HO4:=J (And.intro hown4 hb4);clear hown4 hb4 HST3;go_wp2;go_ret;refine ⟨_,⟨ao4,c4,rfl,zz HO4.out.1 (B1.out.on B13.out).size,(B1.out.on B13.out).on HO4.out.2⟩,?_,fun h=>(HD.out h).2 HLE.out⟩;exact KQ HB.out HL.out HE.out.1 HE.out.2.2.1 (by rw [←HN.out];exact HE.out.2.1)
 ·have hlev':level≤0:=by omega
  have HLV:=J hlev';have HST3:=J (HST.out w1 (Below.refl _ _));clear HST HSZ;go_wp2_with fail
  with_reducible refine HST3.out.mono ?_
  intro e w4 hk;obtain ⟨ao4,c4,rfl,hown4,hb4⟩:=hk;have HO4:=J (And.intro hown4 hb4);clear hown4 hb4 HST3;go_wp2;go_ret;refine ⟨_,⟨ao4,c4,rfl,zz HO4.out.1 B1.out.size,B1.out.on HO4.out.2⟩,?_,fun h=>HFS.out h _ (.inl (zcB HLV.out))⟩;exact KQ HB.out HL.out HE.out.1 HE.out.2.2.1 (by rw [←HN.out];exact HE.out.2.1)
theorem XD {w:World}{v:Value}{bs:List Nat}(level:Int) (hTM:V.yc w) (hTD:kD w) (hs:zi w v bs) (hb:Bs bs) (hl:bs.length≤5000) :
  Calls prog 11 #[v,.int .i64 level] w (Kept w (uk bs (lv level))):=by
 obtain ⟨vo,vc,rfl⟩:=V.qp hs;have HBL:=J (Jd (ao:=none) (c:=0) (zs:=[]) level hTM hTD hs hb hl (.inl rfl) (by decide));clear hTM hTD hs hb hl;go_enter func11,ntmps11;go_wp2_with fail
 refine HBL.out.mono ?_;rintro e w1 ⟨out,⟨ao,c,rfl,hown,hb⟩,_,ho⟩;have HO:=J (And.intro hown (And.intro hb (ho rfl)));clear hown hb ho HBL;go_wp2;go_ret;rw [←HO.out.2.2];exact ⟨ao,c,rfl,HO.out.1,HO.out.2.1⟩
end
section
open Go.ChangeShapes Go.WideShapes Go.ChangeAt Go.RowKit
def Tb8 (w:World):Prop:=Tab w∧V.yc w∧kD w
theorem zkV {W:World}(h:laidMetH prog uN W):Tb8 W:=⟨zlj h,ziI h,zhC h⟩
theorem zfV {W W':World}(h:Tab W) (hb:Below W.heap.size W W'):Tab W':=fun j hj=>(hb.cell (World.block_lt_of_cell? W _ (h j hj))).trans (h j hj)
theorem zlY:zkb Tb8 uk jY where
 keep h hb:=⟨zfV h.1 hb,V.yc.keep h.2.1 hb,h.2.2.grow hb⟩
 tab h:=h.1
 defl level hT hs hb hl:=XD level hT.2.1 hT.2.2 hs hb hl
 blks level _ _ _ hT hs hb hl hi hz:=(Jd level hT.2.1 hT.2.2 hs hb hl hi hz).mono fun _ _ ⟨out,h1,h2,_⟩=>⟨out,h1,h2⟩
 sto _ hs hb hl:=zaJ hs hb hl
 bound:=vQ
 none:=zbJ
 back hb hl _:=zg3 hb hl (zeD _ hb (by omega))
 zero _ _:=zfY _
 few hc h1 h2 h3 h4:=ziz hc h1 h2 h3 h4
theorem zfy:Q2 Tb8:=zbN zlY (by decide)
section
variable {H:Type}{enc:TypeId × Value→H}{w:World}{base:Nat}{spare:Nat→Bool}{held:Bool}{fuel:Nat}
end
end
end Go.Proofs.YtacpfpghokcdlaaGreatDoor
