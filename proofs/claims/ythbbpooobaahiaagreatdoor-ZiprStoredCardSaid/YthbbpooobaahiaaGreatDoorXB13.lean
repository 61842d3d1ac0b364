/- Part 13. -/
import Derived.Laws.BytesArg
import Derived.Test.YthbbpooobaahiaaGreatDoorXB12
namespace Go.Proofs.YthbbpooobaahiaaGreatDoor.Zz
set_option maxRecDepth 100000
section
open Go.RowKit
def CutA (ys:List Nat) (p n:Nat) (w:World) (e:Ending) (w':World):Prop:=
 ∃ na L c,e = .returned (.tuple #[.slice na L c,.bool (decide (p+n≤ys.length))])∧Below w.heap.size w w'∧(p+n≤ys.length→L=n∧Cu.Sl w' na c ((ys.drop p).take n)∧∀ ad,na=some ad→w.heap.size≤ad.block)
theorem cut_any (ao:Option Addr) (cc:Nat) (ys:List Nat) (p n:Nat) (w:World) (h:Cu.Sl w ao cc ys) (hm:ys.length≤1000000) :
  Calls Tryz.prog 73 #[.slice ao ys.length cc,.int .i64 p,.int .i64 n] w (CutA ys p n w):=by
 by_cases hf:p+n≤ys.length
 ·refine (Cu.cut_ok ao cc ys p n w h hf (by omega)).mono ?_
  rintro e w' ⟨na,c,rfl,hs,hb⟩
  exact ⟨na,_,c,by rw [decide_eq_true hf],hb,fun _=>⟨Cu.win_len hf,hs.1,hs.2⟩⟩
 ·refine (Cu.cut_no ao cc ys.length p n w (by unfold maxLen;omega) (by omega)).mono ?_
  rintro e w' ⟨rfl,rfl⟩
  exact ⟨none,0,0,by rw [decide_eq_false hf],Below.refl _ _,fun h=>absurd h hf⟩
theorem conv_txt {w:World} {na:Option Addr} {c:Nat} {xs:List Nat} (h:Cu.Sl w na c xs) (n:Nat) (hn:n=xs.length):(convert 22 9 (.slice na n c)).run Tryz.prog w = .ok (.string (txt xs)) w:=by
 subst hn
 rcases h.src with h0 | ⟨b,off,rfl,hc⟩
 ·subst h0
  cases na with
  | none=>exact run_convert_bytes_nil w 22 5 Tryz.underlying22 Tryz.underlying5 _ _ 9 Tryz.underlying9
  | some a=>exact run_convert_bytes_back w 22 9 5 a c [] Tryz.underlying22 Tryz.underlying5 Tryz.underlying9 (fun j hj=>absurd hj (by simp))
 ·have h1:=run_convert_bytes_arg w 22 5 Tryz.underlying22 Tryz.underlying5 b off xs.length c (xs.map (fun x:Nat=>(x:Int))) (by simp) (fun i hi=>by
   rw [hc i hi];simp [List.getD,hi]) 9 Tryz.underlying9
  rw [h1]
  congr 2
  unfold strOfNums txt
  congr 2
  rw [List.map_map]
  refine List.map_congr_left fun x _=>?_
  simp
theorem txt_size (xs:List Nat):(txt xs).size=xs.length:=by
 show (xs.map UInt8.ofNat).toArray.size=_
 simp
theorem res69 {t:Array Value} {W:World} {q:Nat} {z:Value} {x0 x1 x2 x3 x4 x5 x6 x7 x8 x9 x10:Value} (h2:t[4]? = some (.pointer (some ⟨q,0,none⟩))) (h5:t[5]? = some z) (h:Blk W q 49 #[x0,x1,x2,x3,x4,x5,x6,x7,x8,x9,x10]) :
  (results Tryz.f69 t).run Tryz.prog W = .ok (.tuple #[.agg #[x0,x1,x2,x3,x4,x5,x6,x7,x8,x9,x10],z]) W:=by
 have e0:=(h.cell 0).trans (show _=some x0 from rfl)
 have e1:=(h.cell 1).trans (show _=some x1 from rfl)
 have e2:=(h.cell 2).trans (show _=some x2 from rfl)
 have e3:=(h.cell 3).trans (show _=some x3 from rfl)
 have e4:=(h.cell 4).trans (show _=some x4 from rfl)
 have e5:=(h.cell 5).trans (show _=some x5 from rfl)
 have e6:=(h.cell 6).trans (show _=some x6 from rfl)
 have e7:=(h.cell 7).trans (show _=some x7 from rfl)
 have e8:=(h.cell 8).trans (show _=some x8 from rfl)
 have e9:=(h.cell 9).trans (show _=some x9 from rfl)
 have e10:=(h.cell 10).trans (show _=some x10 from rfl)
 simp [results,Tryz.results69,h2,h5,go_sem,e0,e1,e2,e3,e4,e5,e6,e7,e8,e9,e10]
theorem set11 {w6:World} {b:Nat} {t:TypeId} {o0 o1 o2 o3 o4 o5 o6 o7 o8 o9 o10:Value} (h:Blk w6 b t #[o0,o1,o2,o3,o4,o5,o6,o7,o8,o9,o10]) (v0 v1 v2 v3 v4 v5 v6 v7 v8 v9 v10:Value) :
  Blk (((((((((((w6.setCell ⟨b,0,none⟩ v0).setCell ⟨b,1,none⟩ v1).setCell ⟨b,2,none⟩ v2).setCell ⟨b,3,none⟩ v3).setCell ⟨b,4,none⟩ v4).setCell ⟨b,5,none⟩ v5).setCell ⟨b,6,none⟩ v6).setCell ⟨b,7,none⟩ v7).setCell ⟨b,8,none⟩ v8).setCell ⟨b,9,none⟩ v9).setCell ⟨b,10,none⟩ v10).drew b t #[v0,v1,v2,v3,v4,v5,v6,v7,v8,v9,v10]∧Touch (fun k=>k=b) w6 (((((((((((w6.setCell ⟨b,0,none⟩ v0).setCell ⟨b,1,none⟩ v1).setCell ⟨b,2,none⟩ v2).setCell ⟨b,3,none⟩ v3).setCell ⟨b,4,none⟩ v4).setCell ⟨b,5,none⟩ v5).setCell ⟨b,6,none⟩ v6).setCell ⟨b,7,none⟩ v7).setCell ⟨b,8,none⟩ v8).setCell ⟨b,9,none⟩ v9).setCell ⟨b,10,none⟩ v10).drew:=by
 refine ⟨?_,((((((((((((Touch.refl (fun k=>k=b) w6).setCell ⟨b,0,none⟩ v0 (.inl rfl)).setCell ⟨b,1,none⟩ v1 (.inl rfl)).setCell ⟨b,2,none⟩ v2 (.inl rfl)).setCell ⟨b,3,none⟩ v3 (.inl rfl)).setCell ⟨b,4,none⟩ v4 (.inl rfl)).setCell ⟨b,5,none⟩ v5 (.inl rfl)).setCell ⟨b,6,none⟩ v6 (.inl rfl)).setCell ⟨b,7,none⟩ v7 (.inl rfl)).setCell ⟨b,8,none⟩ v8 (.inl rfl)).setCell ⟨b,9,none⟩ v9 (.inl rfl)).setCell ⟨b,10,none⟩ v10 (.inl rfl)).drew⟩
 have h0:Blk (w6.setCell ⟨b,0,none⟩ v0) b t #[v0,o1,o2,o3,o4,o5,o6,o7,o8,o9,o10]:=h.setCell 0 v0
 have h1:Blk ((w6.setCell ⟨b,0,none⟩ v0).setCell ⟨b,1,none⟩ v1) b t #[v0,v1,o2,o3,o4,o5,o6,o7,o8,o9,o10]:=h0.setCell 1 v1
 have h2:Blk (((w6.setCell ⟨b,0,none⟩ v0).setCell ⟨b,1,none⟩ v1).setCell ⟨b,2,none⟩ v2) b t #[v0,v1,v2,o3,o4,o5,o6,o7,o8,o9,o10]:=h1.setCell 2 v2
 have h3:Blk ((((w6.setCell ⟨b,0,none⟩ v0).setCell ⟨b,1,none⟩ v1).setCell ⟨b,2,none⟩ v2).setCell ⟨b,3,none⟩ v3) b t #[v0,v1,v2,v3,o4,o5,o6,o7,o8,o9,o10]:=h2.setCell 3 v3
 have h4:Blk (((((w6.setCell ⟨b,0,none⟩ v0).setCell ⟨b,1,none⟩ v1).setCell ⟨b,2,none⟩ v2).setCell ⟨b,3,none⟩ v3).setCell ⟨b,4,none⟩ v4) b t #[v0,v1,v2,v3,v4,o5,o6,o7,o8,o9,o10]:=h3.setCell 4 v4
 have h5:Blk ((((((w6.setCell ⟨b,0,none⟩ v0).setCell ⟨b,1,none⟩ v1).setCell ⟨b,2,none⟩ v2).setCell ⟨b,3,none⟩ v3).setCell ⟨b,4,none⟩ v4).setCell ⟨b,5,none⟩ v5) b t #[v0,v1,v2,v3,v4,v5,o6,o7,o8,o9,o10]:=h4.setCell 5 v5
 have h6:Blk (((((((w6.setCell ⟨b,0,none⟩ v0).setCell ⟨b,1,none⟩ v1).setCell ⟨b,2,none⟩ v2).setCell ⟨b,3,none⟩ v3).setCell ⟨b,4,none⟩ v4).setCell ⟨b,5,none⟩ v5).setCell ⟨b,6,none⟩ v6) b t #[v0,v1,v2,v3,v4,v5,v6,o7,o8,o9,o10]:=h5.setCell 6 v6
 have h7:Blk ((((((((w6.setCell ⟨b,0,none⟩ v0).setCell ⟨b,1,none⟩ v1).setCell ⟨b,2,none⟩ v2).setCell ⟨b,3,none⟩ v3).setCell ⟨b,4,none⟩ v4).setCell ⟨b,5,none⟩ v5).setCell ⟨b,6,none⟩ v6).setCell ⟨b,7,none⟩ v7) b t #[v0,v1,v2,v3,v4,v5,v6,v7,o8,o9,o10]:=h6.setCell 7 v7
 have h8:Blk (((((((((w6.setCell ⟨b,0,none⟩ v0).setCell ⟨b,1,none⟩ v1).setCell ⟨b,2,none⟩ v2).setCell ⟨b,3,none⟩ v3).setCell ⟨b,4,none⟩ v4).setCell ⟨b,5,none⟩ v5).setCell ⟨b,6,none⟩ v6).setCell ⟨b,7,none⟩ v7).setCell ⟨b,8,none⟩ v8) b t #[v0,v1,v2,v3,v4,v5,v6,v7,v8,o9,o10]:=h7.setCell 8 v8
 have h9:Blk ((((((((((w6.setCell ⟨b,0,none⟩ v0).setCell ⟨b,1,none⟩ v1).setCell ⟨b,2,none⟩ v2).setCell ⟨b,3,none⟩ v3).setCell ⟨b,4,none⟩ v4).setCell ⟨b,5,none⟩ v5).setCell ⟨b,6,none⟩ v6).setCell ⟨b,7,none⟩ v7).setCell ⟨b,8,none⟩ v8).setCell ⟨b,9,none⟩ v9) b t #[v0,v1,v2,v3,v4,v5,v6,v7,v8,v9,o10]:=h8.setCell 9 v9
 have h10:Blk (((((((((((w6.setCell ⟨b,0,none⟩ v0).setCell ⟨b,1,none⟩ v1).setCell ⟨b,2,none⟩ v2).setCell ⟨b,3,none⟩ v3).setCell ⟨b,4,none⟩ v4).setCell ⟨b,5,none⟩ v5).setCell ⟨b,6,none⟩ v6).setCell ⟨b,7,none⟩ v7).setCell ⟨b,8,none⟩ v8).setCell ⟨b,9,none⟩ v9).setCell ⟨b,10,none⟩ v10) b t #[v0,v1,v2,v3,v4,v5,v6,v7,v8,v9,v10]:=h9.setCell 10 v10
 exact h10.drewN 1
theorem touch_cu {S:Nat→Prop} {a b:World} (h:Touch S a b):Cu.Touch S a b:=⟨h.os,h.tape,h.output,h.size,h.block⟩
theorem touch_low {w w6 W:World} {b:Nat} (hb:Below w.heap.size w w6) (ht:Touch (fun k=>k=b) w6 W) (hl:w.heap.size≤b):Below w.heap.size w W:=
 ((Touch.of_below hb:Touch (fun k=>w.heap.size≤k) w w6).trans (ht.mono fun k hk=>by rw [hk];exact hl)).below (Nat.le_refl _) fun _ h=>h
theorem bset {B:Nat} {w W:World} (h:Below B w W) (p:Addr) (u:Value) (hB:w.heap.size=B) (hp:B≤p.block):Below B w (W.setCell p u):=by
 subst hB
 exact (((Touch.of_below h:Touch (fun k=>w.heap.size≤k) w W)).setCell p u (.inr hp)).below (Nat.le_refl _) fun _ h=>h
theorem wrap_sm (x:Int) (h0:0≤x) (h1:x<1000000000000):IntKind.i64.wrap x=x:=by rw [IntKind.wrap_i64];omega
end
theorem over_comm (a b:Sp):over a b=over b a:=by
 unfold over
 congr 1
 rw [And.comm]
theorem clash_perm {l l':List Sp} (h:l.Perm l'):clashP l=clashP l':=by
 induction h with
 | nil=>rfl
 | cons x h ih=>
  rw [clashP,clashP,ih]
  congr 1
  rw [Bool.eq_iff_iff,List.any_eq_true,List.any_eq_true]
  exact ⟨fun ⟨u,hu,k⟩=>⟨u,h.mem_iff.1 hu,k⟩,fun ⟨u,hu,k⟩=>⟨u,h.mem_iff.2 hu,k⟩⟩
 | swap x y l=>
  simp only [clashP,List.any_cons]
  rw [over_comm y x]
  cases over x y <;> cases l.any (over x) <;> cases l.any (over y) <;> rfl
 | trans _ _ ih1 ih2=>exact ih1.trans ih2
def chk:Nat→List Sp→Bool
 | _,[]=>false
 | b,s::t=>decide (s.head<b) || chk s.behind t
theorem chk_clash:∀ (l:List Sp) (b:Nat),l.Pairwise (fun a c=>a.head≤c.head)→(∀ s∈l,s.head<s.behind)→
  chk b l=((match l with | []=>false | s::_=>decide (s.head<b)) || clashP l):=by
 intro l
 induction l with
 | nil=>intro b _ _;rfl
 | cons s t ih=>
  intro b hs hp
  obtain ⟨h1,h2⟩:=List.pairwise_cons.1 hs
  rw [chk,ih s.behind h2 (fun u hu=>hp u (List.mem_cons_of_mem _ hu)),clashP,←Bool.or_assoc,←Bool.or_assoc,Bool.or_assoc,Bool.or_assoc]
  congr 2
  cases t with
  | nil=>rfl
  | cons u r=>
   have hus:=h1 u (List.mem_cons_self ..)
   have hu:=hp u (List.mem_cons_of_mem _ (List.mem_cons_self ..))
   show decide (u.head<s.behind)=(u::r).any (over s)
   rw [Bool.eq_iff_iff,List.any_eq_true,decide_eq_true_iff]
   constructor
   ·intro h
    exact ⟨u,List.mem_cons_self ..,by unfold over;rw [decide_eq_true_iff];omega⟩
   ·rintro ⟨v,hv,h⟩
    unfold over at h
    rw [decide_eq_true_iff] at h
    rcases List.mem_cons.1 hv with rfl | hv
    ·exact h.2
    ·have:=(List.pairwise_cons.1 h2).1 v hv
     omega
theorem chk_zero {l:List Sp} (hs:l.Pairwise (fun a c=>a.head≤c.head)) (hp:∀ s∈l,s.head<s.behind):chk 0 l=clashP l:=by
 rw [chk_clash l 0 hs hp]
 cases l with
 | nil=>rfl
 | cons s t=>simp
section
open Go.RowKit Go.Sort Go.Shelf
instance:Inhabited Sp:=⟨⟨0,0,0,0⟩⟩
def spe (s:Sp):List Value:=[.int .i64 (s.head:Nat),.int .i64 (s.data:Nat),.int .i64 (s.behind:Nat),.int .i64 (s.extra:Nat)]
def spc (l:List Sp):List Value:=l.flatMap spe
theorem spc_len (l:List Sp):(spc l).length=l.length*4:=by
 induction l with
 | nil=>rfl
 | cons x r ih=>simp only [spc,List.flatMap_cons,List.length_append] at ih ⊢;rw [ih];simp [spe];omega
theorem spe_one (s:Sp):∀ u∈spe s,u.oneCell'=true:=by
 intro u hu
 simp [spe] at hu
 rcases hu with rfl | rfl | rfl | rfl <;> rfl
theorem spc_one (l:List Sp):∀ u∈spc l,u.oneCell'=true:=by
 intro u hu
 obtain ⟨s,_,h⟩:=List.mem_flatMap.1 hu
 exact spe_one s u h
theorem spc_at (l:List Sp) (i c:Nat) (hi:i<l.length) (hc:c<4):(spc l)[i*4+c]? = (spe l[i])[c]? := by
 induction l generalizing i with
 | nil=>simp at hi
 | cons x r ih=>
  have hl:(spe x).length=4:=rfl
  cases i with
  | zero=>simp only [spc,List.flatMap_cons,Nat.zero_mul,Nat.zero_add];rw [List.getElem?_append_left (by rw [hl];exact hc)];rfl
  | succ i=>
   simp only [spc,List.flatMap_cons]
   rw [List.getElem?_append_right (by rw [hl];omega),hl,show (i+1)*4+c-4=i*4+c by omega]
   exact ih i (by simpa using hi)
theorem at64:AT 64 93 (.agg #[.int .i64 0,.int .i64 0,.int .i64 0,.int .i64 0]) 4 32:=⟨by kernel_rfl,by kernel_rfl,rfl,by omega⟩
theorem isNaN_any (x:Int) (w:World):Calls Tryz.prog 105 #[.int .i64 x] w fun e w'=>e = .returned (.bool false)∧w=w':=by
 go_enter Tryz.func105,Tryz.ntmps105
 go_wp2
 go_ret
 exact ⟨rfl,rfl⟩
theorem cmp_any (x y:Int) (w:World):Calls Tryz.prog 79 #[.int .i64 x,.int .i64 y] w fun e w'=>e = .returned (.int .i64 (Lib.compareInt x y))∧w=w':=by
 have K1:=fun (z:Int) (W:World)=>isNaN_any z W
 obtain ⟨A,hA⟩:∃ A,A=Lib.compareInt x y:=⟨_,rfl⟩
 rw [←hA]
 unfold Lib.compareInt at hA
 by_cases h1:x<y
 ·rw [if_pos h1] at hA
  subst hA
  go_enter Tryz.func79,Tryz.ntmps79
  go_wp2_with (go_at_call 105;refine (K1 _ _).mono ?_;rintro e w' ⟨rfl,rfl⟩)
  go_ret
  exact ⟨rfl,rfl⟩
 ·rw [if_neg h1] at hA
  by_cases h2:y<x
  ·rw [if_pos h2] at hA
   subst hA
   go_enter Tryz.func79,Tryz.ntmps79
   go_wp2_with (go_at_call 105;refine (K1 _ _).mono ?_;rintro e w' ⟨rfl,rfl⟩)
   go_ret
   exact ⟨rfl,rfl⟩
  ·rw [if_neg h2] at hA
   subst hA
   go_enter Tryz.func79,Tryz.ntmps79
   go_wp2_with (go_at_call 105;refine (K1 _ _).mono ?_;rintro e w' ⟨rfl,rfl⟩)
   go_ret
   exact ⟨rfl,rfl⟩
def cfS (x y:Sp):Int:=Lib.compareInt (x.head:Nat) (y.head:Nat)
theorem ltS (x y:Sp):ltOf cfS x y=decide (x.head<y.head):=by
 unfold ltOf cfS Lib.compareInt
 rw [Bool.eq_iff_iff,decide_eq_true_iff,decide_eq_true_iff]
 split
 ·constructor <;> omega
 ·split <;> constructor <;> omega
theorem swoS:SWO (ltOf cfS):=by
 refine ⟨fun x=>?_,fun x y z h1 h2=>?_,fun x y z h1 h2=>?_⟩
 ·rw [ltS];simp
 ·rw [ltS,decide_eq_true_iff] at *;omega
 ·rw [ltS,decide_eq_false_iff_not] at *;omega
set_option maxHeartbeats 1000000 in
theorem closure78 (x y:Sp) (W:World):Calls Tryz.prog 78 #[.agg (spe x).toArray,.agg (spe y).toArray] W fun e w'=>e = .returned (.int .i64 (cfS x y))∧∃ q os',w'=grow (W.drewN q) os':=by
 have K:=fun W'=>cmp_any (x.head:Nat) (y.head:Nat) W'
 have HC:Hid (Lib.compareInt (x.head:Nat) (y.head:Nat)=cfS x y):=Lib.hid rfl
 generalize Lib.compareInt (x.head:Nat) (y.head:Nat)=r at K HC
 rw [←HC.out]
 unfold spe
 go_enter Tryz.func78,Tryz.ntmps78
 go_wp2_with (go_at_call 79;refine (K _).mono ?_;rintro e w' ⟨rfl,rfl⟩)
 go_ret
 exact ⟨rfl,0,_,by rw [alloc_eq_grow,alloc_eq_grow,grow_grow];rfl⟩
theorem holds_own {w:World} {base:Nat} {v:Value} {l:List Sp} (h:w.ownsRow base 93 4 v l.length (spc l)) (hl:0<l.length) :
  ∃ g c,v = .slice (some ⟨g,0,none⟩) l.length c∧base≤g∧g<w.heap.size∧HoldsK spe 4 w g 0 l.toArray:=by
 obtain ⟨g,c,rfl,hb,hlt⟩:=h.form hl
 refine ⟨g,c,rfl,hb,hlt,fun j hj=>?_⟩
 have hj':j<l.length*4:=by simpa using hj
 have hcell:=h.cells (g:=g) rfl
 rcases h.2 with ⟨_,h0⟩ | ⟨g',cap,cur,hv,hbg,hgg,_⟩
 ·omega
 ·have e1:g=g':=by
   injection hv with h1 _ _
   injection h1 with h1
   injection h1
  subst e1
  refine ⟨?_,by simp [World.frozen?,hgg]⟩
  have hi:j/4<l.length:=by omega
  have hc:j%4<4:=Nat.mod_lt _ (by omega)
  have h4:=spc_at l (j/4) (j%4) hi hc
  rw [show j/4*4+j%4=j by omega] at h4
  have hsz:(spe l[j/4]).length=4:=rfl
  rw [List.getElem?_eq_getElem (l:=spe l[j/4]) (by rw [hsz];exact hc)] at h4
  have h5:=hcell j _ h4
  rw [Addr.add_lit] at h5
  rw [h5,getElem!_pos (flatK spe 4 l.toArray) j (by simpa using hj)]
  simp [flatK,hi,hsz,hc]
set_option maxHeartbeats 800000 in
theorem cloneS_any (ao:Option Addr) (c:Nat) (l:List Sp) (w:World) (h:CellsAt w (.slice ao l.length c) l.length (spc l)) (hn:l.length≤100000) :
  Calls Tryz.prog 76 #[.slice ao l.length c] w fun e w'=>∃ ao2 c2,e = .returned (.slice ao2 l.length c2)∧w'.ownsRow w.heap.size 93 4 (.slice ao2 l.length c2) l.length (spc l)∧Below w.heap.size w w':=by
 have q64:∀ (w:World) (a:Option Addr) (n c n' c':Nat),(binOp .eql 64 (.slice a n c) (.slice none n' c')).run Tryz.prog w = .ok (.bool a.isNone) w:=fun w a n c n' c'=>Lib.run_eql_slice_nil w _ _ a n c n' c' Tryz.underlying64
 cases ao with
 | none=>
  have hl:l=[]:=by
   rcases h with ⟨_,h0,_⟩ | ⟨ad,c',he,_⟩
   ·exact List.eq_nil_of_length_eq_zero h0
   ·injection he with h1 _ _;cases h1
  subst hl
  go_enter Tryz.func76,Tryz.ntmps76
  go_wp2
  go_ret
  exact ⟨none,0,rfl,World.ownsRow_nil _ _ _ _,Below.refl _ _⟩
 | some ad=>
  have HC:Hid (CellsAt (w.alloc (.cells #[] 93)) (.slice (some ad) l.length c) l.length (spc l)):=Lib.hid (by
   rcases h with ⟨h0,h1,h2⟩ | ⟨ad',c',he,hc⟩
   ·exact .inl ⟨h0,h1,h2⟩
   ·exact .inr ⟨ad',c',he,fun j u hu=>(World.cell?_alloc_old _ _ _ (Nat.ne_of_lt (World.block_lt_of_cell? w _ (hc j u hu)))).trans (hc j u hu)⟩)
  have hsz:=alloc_size w (.cells #[] 93)
  clear h
  go_enter Tryz.func76,Tryz.ntmps76
  go_wp2_with (at_builtin;refine wpList_append_g at64 rfl (.tmp 5) (.tmp 6) rfl w.heap.size (.slice (some ⟨w.heap.size,0,none⟩) 0 0) (.slice (some ad) l.length c) 0 l.length [] (spc l) rfl rfl (own_none w 93 4) HC.out (spc_len l) (spc_one l) (by omega) (by omega) (by omega) ?c2)
  case c2=>
  intro ao2 c2 w2 hA
  try rw [Nat.zero_add] at hA
  try rw [List.nil_append] at hA
  try rw [Nat.zero_add]
  have HA:=Lib.hid hA
  clear hA
  go_wp2
  go_ret
  exact ⟨ao2,c2,rfl,HA.out.own,HA.out.alloc.touch.below (Nat.le_refl _) fun k hk=>by simp [Value.ownBlock] at hk;omega⟩
theorem below_sort {B:Nat} {w:World} {g n:Nat} {d:Array Sp} {os:Array Obj} (hB:B≤g) (hw:B≤w.heap.size):RowKit.Below B w (sortWorldK spe 4 w g 0 n d os):=by
 refine ⟨rfl,rfl,rfl,?_,fun k hk=>?_⟩
 ·simp [sortWorldK,grow,putRowK,putRow,mapBlock]
 ·have h1:k≠g:=by omega
  have h2:k<w.heap.size:=by omega
  simp [sortWorldK,grow,putRowK,putRow,mapBlock,Array.getElem?_append,h2,Array.getElem_modify,Ne.symm h1]
theorem perm_of {d d':Array Sp} (h:PermIn 0 d.size d d'):d'.toList.Perm d.toList:=by
 obtain ⟨hs,_,hp⟩:=h
 have e1:d.extract 0 d.size=d:=by simp
 have e2:d'.extract 0 d.size=d':=by rw [←hs];simp
 rwa [e1,e2] at hp
theorem sorted_of {d:Array Sp} (h:SortedIn (ltOf cfS) 0 d.size d):d.toList.Pairwise (fun a c=>a.head≤c.head):=by
 rw [List.pairwise_iff_getElem]
 intro i j hi hj hij
 have hi':i<d.size:=by simpa using hi
 have hj':j<d.size:=by simpa using hj
 have:=h i j (Nat.zero_le _) hij hj'
 rw [ltS,decide_eq_false_iff_not,getElem!_pos d i hi',getElem!_pos d j hj'] at this
 simp only [Array.getElem_toList]
 omega
theorem ins_none (p:Option Addr) (cap:Nat) (fv:Value) (w:World):Calls Tryz.prog 119 #[.slice p 0 cap,.int .i64 0,.int .i64 0,fv] w fun e w'=>e = .returned (.tuple #[])∧w'=w:=by
 go_enter Tryz.func119,Tryz.ntmps119
 go_wp2
 refine wp_loop_rounds 1 ?_
 rw [rounds_succ]
 go_wp2
 go_end0
 exact ⟨rfl,rfl⟩
theorem pdq_none (p:Option Addr) (cap:Nat) (lim:Int) (fv:Value) (w:World):Calls Tryz.prog 103 #[.slice p 0 cap,.int .i64 0,.int .i64 0,.int .i64 lim,fv] w fun e w'=>e = .returned (.tuple #[])∧w'=w:=by
 have hi:=fun W=>ins_none p cap fv W
 go_enter Tryz.func103,Tryz.ntmps103
 go_wp2
 refine wp_loop_rounds 1 ?_
 rw [rounds_succ]
 go_wp2_with (go_at_call 119;refine (hi _).mono ?_;rintro e w' ⟨rfl,rfl⟩)
 (try simp only [Exit.inBlock,Exit.then]);refine bodyPost_ret (results_none rfl _ _ _) rfl ?_
 exact ⟨rfl,rfl⟩
theorem sort_none (p:Option Addr) (cap:Nat) (fv:Value) (w:World):Calls Tryz.prog 77 #[.slice p 0 cap,fv] w fun e w'=>e = .returned (.tuple #[])∧w'=w:=by
 have hp:=fun lim W=>pdq_none p cap lim fv W
 have hl:∀ W,Calls Tryz.prog 104 #[.int .u64 0] W fun e w'=>e = .returned (.int .i64 (Lib.bitLen 0:Nat))∧w'=W:=fun W=>by
  have h:=Any.bits_Len (SlLaysF0.n15.bits (P:=Tryz.prog) (ρ := lsort_ren) { lsort with }) 0 W (by omega) (by omega)
  exact h
 go_enter Tryz.func77,Tryz.ntmps77
 go_wp2_with (first | (go_at_call 104;refine (hl _).mono ?_;rintro e w' ⟨rfl,rfl⟩) | (go_at_call 103;refine (hp _ _).mono ?_;rintro e w' ⟨rfl,rfl⟩))
 go_end0
 exact ⟨rfl,rfl⟩
def SortTo (B:Nat) (ao:Option Addr) (l:List Sp) (w:World) (e:Ending) (w':World):Prop:=
 e = .returned (.tuple #[])∧∃ l':List Sp,l'.Perm l∧l'.Pairwise (fun a c=>a.head≤c.head)∧RowKit.Below B w w'∧(l'=[]∨∃ g,ao=some ⟨g,0,none⟩∧∀ i (hi:i<l'.length) k,k<4→w'.cell? ⟨g,i*4+k,none⟩=(spe l'[i])[k]?)
theorem sort_any (B:Nat) (ao:Option Addr) (c:Nat) (l:List Sp) (w:World) (h:w.ownsRow B 93 4 (.slice ao l.length c) l.length (spc l)) (hB:B≤w.heap.size) (hn:l.length≤100000) :
  Calls Tryz.prog 77 #[.slice ao l.length c,.func (.func 78) #[] #[]] w (SortTo B ao l w):=by
 by_cases h0:l.length=0
 ·have hl:l=[]:=List.eq_nil_of_length_eq_zero h0
  subst hl
  refine (sort_none ao c (.func (.func 78) #[] #[]) w).mono ?_
  rintro e w' ⟨rfl,rfl⟩
  exact ⟨rfl,[],List.Perm.refl _,List.Pairwise.nil,Below.refl _ _,.inl rfl⟩
 ·obtain ⟨g,c',he,hBg,hgl,hH⟩:=holds_own h (by omega)
  injection he with h1 _ h2
  subst h1 h2
  have eg:∀ args w,(callFunc 78 args).run Tryz.prog w = .ok (.enter 78 args) w:=enters_of Tryz.func78 (by kernel_rfl) rfl
  have hcon:=AnyQ.slices_SortFunc lsort 4 Tryz.isAgg93 Tryz.sizeOf93 spe (fun _=>rfl) (fun x=>spe_one x) cfS swoS 78 #[] g 0 c l.toArray w eg (fun _ _ _ _ x y=>closure78 x y _) hH hgl (by simp;omega)
  simp only [List.size_toArray] at hcon
  refine hcon.mono ?_
  rintro e w' ⟨rfl,d',n,os,hp,hs,rfl⟩
  have hsz:d'.size=l.length:=by have:=hp.1;simpa using this
  have hp2:PermIn 0 l.toArray.size l.toArray d':=by simpa using hp
  have hs2:SortedIn (ltOf cfS) 0 d'.size d':=by rw [hsz];exact hs
  refine ⟨rfl,d'.toList,by simpa using perm_of hp2,sorted_of hs2,below_sort hBg hB,.inr ⟨g,rfl,fun i hi k hk=>?_⟩⟩
  have hi':i<d'.size:=by simpa using hi
  have hH2:HoldsK spe 4 (sortWorldK spe 4 w g 0 n d' os) g 0 d':=by
   refine holdsK_grow spe 4 _ os g 0 d' ?_ (holdsK_putRowK spe 4 _ g 0 l.toArray d' (holdsK_ahead spe 4 w n g 0 _ hH) (by simpa using hsz))
   simpa [putRowK,putRow,mapBlock,ahead] using hgl
  have:=(hH2.cell hi' hk).1
  rw [Nat.zero_add] at this
  rw [this,getElem!_pos d' i hi']
  have hl4:(spe d'[i]).length=4:=rfl
  rw [getElem!_pos (spe d'[i]) k (by rw [hl4];exact hk)]
  simp only [Array.getElem_toList]
  rw [List.getElem?_eq_getElem (by rw [hl4];exact hk)]
set_option maxHeartbeats 1600000 in
theorem clash_any (ao:Option Addr) (c:Nat) (l:List Sp) (w:World) (h:CellsAt w (.slice ao l.length c) l.length (spc l)) (hpos:∀ s∈l,s.head<s.behind) (hn:l.length≤100000) :
  Calls Tryz.prog 49 #[.slice ao l.length c] w fun e w'=>e = .returned (.bool (clashP l))∧RowKit.Below w.heap.size w w':=by
 obtain ⟨A,hA⟩:∃ A,A=clashP l:=⟨_,rfl⟩
 rw [←hA]
 have HA:=Lib.hid hA
 have KC:=Lib.hid (cloneS_any ao c l w h hn)
 have HP:=Lib.hid hpos
 obtain ⟨n,hnl⟩:∃ n,n=l.length:=⟨_,rfl⟩
 have KS:=Lib.hid fun (W:World) (a2:Option Addr) (c2:Nat) (ho:W.ownsRow w.heap.size 93 4 (.slice a2 l.length c2) l.length (spc l)) (hb:RowKit.Below w.heap.size w W)=>sort_any w.heap.size a2 c2 l W ho hb.size hn
 rw [←hnl] at KC KS hn ⊢
 have HN:=Lib.hid hnl
 clear h hpos hA hnl
 go_enter Tryz.func49,Tryz.ntmps49
 go_wp2_with fail
 refine KC.out.mono ?_
 rintro e w1 ⟨a2,c2,rfl,ho,hb1⟩
 have K2:=Lib.hid (KS.out w1 a2 c2 ho hb1)
 have HB1:=Lib.hid hb1
 clear ho hb1
 go_wp2_with fail
 refine K2.out.mono ?_
 rintro e w2 ⟨rfl,l',hp,hs,hb2,hcell⟩
 have HB2:=Lib.hid (HB1.out.trans hb2)
 have HC:=Lib.hid hcell
 have HLN:Hid (l'.length=n):=Lib.hid (by rw [HN.out];exact hp.length_eq)
 have HR:Hid (A=chk 0 l'):=Lib.hid (by rw [HA.out,chk_zero hs (fun s hs'=>HP.out s (hp.mem_iff.1 hs'))];exact (clash_perm hp).symm)
 clear hp hs hb2 hcell K2 KS KC
 go_wp2
 go_loopw [3,12] (fun vb vi wr=>∃ (i b:Nat),i≤n∧vi = .int .i64 i∧vb = .int .i64 b∧Hid (A=chk b (l'.drop i))∧RowKit.Below w2.heap.size w2 wr) (fun _ vi _=>n-(intOf vi).toNat)
 case atStart=>exact ⟨0,0,Nat.zero_le _,rfl,rfl,HR,Below.refl _ _⟩
 case round=>
  obtain ⟨i,b,hi,rfl,rfl,hrel,hbel⟩:=hrel
  by_cases hlt:i<n
  ·have hii:(i:Int)<n:=by omega
   have hil:i<l'.length:=by rw [HLN.out];exact hlt
   obtain ⟨g,rfl,hcell⟩:∃ g,a2=some ⟨g,0,none⟩∧∀ k,k<4→w2.cell? ⟨g,i*4+k,none⟩=(spe l'[i])[k]? := by
    rcases HC.out with h0 | ⟨g,h1,h2⟩
    ·rw [h0] at hil;simp at hil
    ·exact ⟨g,h1,fun k hk=>h2 i hil k hk⟩
   have hst:=hrel.out
   rw [List.drop_eq_getElem_cons hil,chk] at hst
   obtain ⟨⟨x0,x1,x2,x3⟩,hx⟩:∃ s,s=l'[i]:=⟨_,rfl⟩
   rw [←hx] at hcell hst
   have d0:=hcell 0 (by omega)
   have d1:=hcell 1 (by omega)
   have d2:=hcell 2 (by omega)
   have d3:=hcell 3 (by omega)
   change w2.cell? ⟨g,i*4,none⟩=some (.int .i64 (x0:Nat)) at d0
   change w2.cell? ⟨g,i*4+1,none⟩=some (.int .i64 (x1:Nat)) at d1
   change w2.cell? ⟨g,i*4+2,none⟩=some (.int .i64 (x2:Nat)) at d2
   change w2.cell? ⟨g,i*4+3,none⟩=some (.int .i64 (x3:Nat)) at d3
   have c0:=(hbel.cell (World.block_lt_of_cell? w2 _ d0)).trans d0
   have c1:=(hbel.cell (World.block_lt_of_cell? w2 _ d1)).trans d1
   have c2:=(hbel.cell (World.block_lt_of_cell? w2 _ d2)).trans d2
   have c3:=(hbel.cell (World.block_lt_of_cell? w2 _ d3)).trans d3
   have hgw:g<wr.heap.size:=World.block_lt_of_cell? wr _ c0
   have HBX:=Lib.hid (hbel.trans (((Below.refl _ wr).alloc (Nat.le_refl _) (.cells #[.int .i64 (x0:Nat),.int .i64 (x1:Nat),.int .i64 (x2:Nat),.int .i64 (x3:Nat)] 93)).mono hbel.size))
   have HBW:=Lib.hid (HB2.out.trans (HBX.out.mono HB2.out.size))
   have HST:=Lib.hid hst
   clear hcell hx d0 d1 d2 d3 hbel hrel hst
   by_cases hb:x0<b
   ·have hbz:(x0:Int)<b:=by omega
    have HT:Hid (A=true):=Lib.hid (by rw [HST.out];simp [hb])
    go_wp2
    go_ret
    exact ⟨by rw [HT.out];rfl,HBW.out⟩
   ·have hbz:¬(x0:Int)<b:=by omega
    have HT:Hid (A=chk x2 (l'.drop (i+1))):=Lib.hid (by rw [HST.out];simp [hb])
    go_wp2
    go_roundw
    case rel=>exact ⟨i+1,x2,by omega,by go_num,rfl,HT,HBX.out⟩
    case measure=>simp [intOf];omega
  ·have hni:¬(i:Int)<n:=by omega
   have HT:Hid (A=false):=Lib.hid (by rw [hrel.out,List.drop_of_length_le (by rw [HLN.out];omega)];rfl)
   have HBW:=Lib.hid (HB2.out.trans (hbel.mono HB2.out.size))
   clear hbel hrel
   go_wp2
   go_ret
   exact ⟨by rw [HT.out];rfl,HBW.out⟩
end
section
open Go.RowKit
structure Stl (P:Program) (ops:Array Oper) (w:World) (Q:Act→Prop) (rest:List Oper) (a:Act):Prop where
 out:wpStill P ops w Q rest a
section
variable {P:Program} {ops:Array Oper} {Q:Act→Prop} {w:World} {l:List Value} {ds:List Deferred} {o:Oper} {rest:List Oper} {k:Nat}
theorem tS (v:Value) (h:Stl P ops w Q rest ⟨(l.set k v).toArray,ds⟩) (hk:o.dst=some k:=by rfl) (hw:Region.wanted o (yielded ops l.toArray)=true:=by kernel_rfl)
  (hy:(execOp (Act.eval ⟨l.toArray,ds⟩) o).run P w = .ok (.value v) w:=by go_simp):Stl P ops w Q (o::rest) ⟨l.toArray,ds⟩:=by
 refine ⟨?_⟩
 rw [wpStill,if_pos hw,Oper.still,hy,Oper.stillUpon_value,hk]
 unfold Act.put
 simpa using h.out
theorem tN (h:Stl P ops w Q rest ⟨(l.set k undef).toArray,ds⟩) (hk:o.dst=some k:=by rfl) (hw:Region.wanted o (yielded ops l.toArray)=false:=by kernel_rfl):Stl P ops w Q (o::rest) ⟨l.toArray,ds⟩:=by
 refine ⟨?_⟩
 rw [wpStill,if_neg (by rw [hw];decide),hk]
 unfold Act.put
 simpa using h.out
theorem tE {a:Act} (h:Q a):Stl P ops w Q [] a:=⟨wpStill_nil h⟩
end
end
end Go.Proofs.YthbbpooobaahiaaGreatDoor.Zz
