/- Part 26. -/
import Derived.Deep.Slices
import Derived.HandedShaped
import Derived.Lib.OwnBridge
import Derived.Lib.SlicesCompact
import Derived.Lib.SmallJoins
import Derived.Shelf.Slices.Clone
import Derived.Shelf.Slices.CompactI
import Derived.Shelf.Slices.In.SortNone
import Derived.Shelf.SlicesE.DeleteFunc
import Derived.Shelf.Sort.Plain
import Derived.Sort.OwnSortedInts
import Derived.Test.YtacpfpghokcdlaaGreatDoorXA25
namespace Go.Proofs.YtacpfpghokcdlaaGreatDoor
set_option maxRecDepth 100000
def lsort_ren:Go.Shelf.Ren:=⟨fun | 189=>52 | 125=>74 | 257=>73 | 128=>116 | 129=>117 | 294=>107 | 295=>108 | 296=>109 | 297=>110 | 298=>111 | 299=>112 | 216=>113 | 300=>114 | 301=>115 | 328=>142 | 329=>143 | 330=>144 | 331=>145 | 332=>146 | 215=>147 | 343=>169 | n=>n,fun | 28=>40 | 3=>3 | 46=>54 | 0=>0 | 51=>105 | 53=>161 | 4=>4 | 183=>165 | 182=>164 | 131=>71 | 5=>5 | 9=>9 | 218=>198 | 222=>202 | 228=>226 | 229=>102 | n=>n,fun | n=>n⟩
theorem lsort:Go.Proofs.Lays.n189 Tryz.prog lsort_ren:={
 mixed:=by kernel_rfl,
 f125:=Tryz.func74.trans (congrArg some (by kernel_rfl)),
 f128:=Tryz.func116.trans (congrArg some (by kernel_rfl)),
 f129:=Tryz.func117.trans (congrArg some (by kernel_rfl)),
 f189:=Tryz.func52.trans (congrArg some (by kernel_rfl)),
 f215:=Tryz.func147.trans (congrArg some (by kernel_rfl)),
 f216:=Tryz.func113.trans (congrArg some (by kernel_rfl)),
 f257:=Tryz.func73.trans (congrArg some (by kernel_rfl)),
 f294:=Tryz.func107.trans (congrArg some (by kernel_rfl)),
 f295:=Tryz.func108.trans (congrArg some (by kernel_rfl)),
 f296:=Tryz.func109.trans (congrArg some (by kernel_rfl)),
 f297:=Tryz.func110.trans (congrArg some (by kernel_rfl)),
 f298:=Tryz.func111.trans (congrArg some (by kernel_rfl)),
 f299:=Tryz.func112.trans (congrArg some (by kernel_rfl)),
 f300:=Tryz.func114.trans (congrArg some (by kernel_rfl)),
 f301:=Tryz.func115.trans (congrArg some (by kernel_rfl)),
 f328:=Tryz.func142.trans (congrArg some (by kernel_rfl)),
 f329:=Tryz.func143.trans (congrArg some (by kernel_rfl)),
 f330:=Tryz.func144.trans (congrArg some (by kernel_rfl)),
 f331:=Tryz.func145.trans (congrArg some (by kernel_rfl)),
 f332:=Tryz.func146.trans (congrArg some (by kernel_rfl)),
 f343:=Tryz.func169.trans (congrArg some (by kernel_rfl)),
 t0:=Tryz.underlying0,
 a0:=Tryz.isAgg0,
 z0:=Tryz.sizeOf0,
 v0:=Tryz.zeroValue0,
 t3:=Tryz.underlying3,
 a3:=Tryz.isAgg3,
 z3:=Tryz.sizeOf3,
 v3:=Tryz.zeroValue3,
 t4:=Tryz.underlying4,
 a4:=Tryz.isAgg4,
 z4:=Tryz.sizeOf4,
 v4:=Tryz.zeroValue4,
 t5:=Tryz.underlying5,
 a5:=Tryz.isAgg5,
 z5:=Tryz.sizeOf5,
 v5:=Tryz.zeroValue5,
 t9:=Tryz.underlying9,
 a9:=Tryz.isAgg9,
 z9:=Tryz.sizeOf9,
 v9:=Tryz.zeroValue9,
 t28:=Tryz.underlying40,
 a28:=Tryz.isAgg40,
 z28:=Tryz.sizeOf40,
 v28:=Tryz.zeroValue40,
 t46:=Tryz.underlying54,
 a46:=Tryz.isAgg54,
 z46:=Tryz.sizeOf54,
 v46:=Tryz.zeroValue54,
 t51:=Tryz.underlying105,
 a51:=Tryz.isAgg105,
 z51:=Tryz.sizeOf105,
 v51:=Tryz.zeroValue105,
 t53:=Tryz.underlying161,
 a53:=Tryz.isAgg161,
 z53:=Tryz.sizeOf161,
 v53:=Tryz.zeroValue161,
 t131:=Tryz.underlying71,
 a131:=Tryz.isAgg71,
 z131:=Tryz.sizeOf71,
 v131:=Tryz.zeroValue71,
 t182:=Tryz.underlying164,
 a182:=Tryz.isAgg164,
 z182:=Tryz.sizeOf164,
 v182:=Tryz.zeroValue164,
 t183:=Tryz.underlying165,
 a183:=Tryz.isAgg165,
 z183:=Tryz.sizeOf165,
 v183:=Tryz.zeroValue165,
 t218:=Tryz.underlying198,
 a218:=Tryz.isAgg198,
 z218:=Tryz.sizeOf198,
 v218:=Tryz.zeroValue198,
 t222:=Tryz.underlying202,
 a222:=Tryz.isAgg202,
 z222:=Tryz.sizeOf202,
 v222:=Tryz.zeroValue202,
 t228:=Tryz.underlying226,
 a228:=Tryz.isAgg226,
 z228:=Tryz.sizeOf226,
 v228:=Tryz.zeroValue226,
 t229:=Tryz.underlying102,
 a229:=Tryz.isAgg102,
 z229:=Tryz.sizeOf102,
 v229:=Tryz.zeroValue102 }
def lclone_ren:Go.Shelf.Ren:=⟨fun | 15=>51 | n=>n,fun | 22=>40 | 3=>3 | 4=>4 | n=>n,fun | n=>n⟩
theorem lclone:Go.Proofs.Lays2.n15 Tryz.prog lclone_ren:={
 mixed:=by kernel_rfl,
 f15:=Tryz.func51.trans (congrArg some (by kernel_rfl)),
 t3:=Tryz.underlying3,
 a3:=Tryz.isAgg3,
 z3:=Tryz.sizeOf3,
 v3:=Tryz.zeroValue3,
 t4:=Tryz.underlying4,
 a4:=Tryz.isAgg4,
 z4:=Tryz.sizeOf4,
 v4:=Tryz.zeroValue4,
 t22:=Tryz.underlying40,
 a22:=Tryz.isAgg40,
 z22:=Tryz.sizeOf40,
 v22:=Tryz.zeroValue40,
 i3:=by kernel_rfl }
def lcomp_ren:Go.Shelf.Ren:=⟨fun | 20=>53 | n=>n,fun | 22=>40 | 3=>3 | 4=>4 | 0=>0 | n=>n,fun | n=>n⟩
theorem lcomp:Go.Proofs.Lays2.n20 Tryz.prog lcomp_ren:={
 mixed:=by kernel_rfl,
 f20:=Tryz.func53.trans (congrArg some (by kernel_rfl)),
 t0:=Tryz.underlying0,
 a0:=Tryz.isAgg0,
 z0:=Tryz.sizeOf0,
 v0:=Tryz.zeroValue0,
 t3:=Tryz.underlying3,
 a3:=Tryz.isAgg3,
 z3:=Tryz.sizeOf3,
 v3:=Tryz.zeroValue3,
 t4:=Tryz.underlying4,
 a4:=Tryz.isAgg4,
 z4:=Tryz.sizeOf4,
 v4:=Tryz.zeroValue4,
 t22:=Tryz.underlying40,
 a22:=Tryz.isAgg40,
 z22:=Tryz.sizeOf40,
 v22:=Tryz.zeroValue40,
 i3:=by kernel_rfl }
def ldel_ren:Go.Shelf.Ren:=⟨fun | 10=>50 | 6=>72 | n=>n,fun | 22=>40 | 23=>3 | 25=>52 | 3=>3 | 4=>4 | 0=>0 | n=>n,fun | n=>n⟩
theorem ldel:Go.Proofs.SlLaysH.n10 Tryz.prog ldel_ren:={
 mixed:=by kernel_rfl,
 f6:=⟨Tryz.f72.name,by decide,Tryz.func72.trans (congrArg some (by kernel_rfl))⟩,
 f10:=⟨Tryz.f50.name,by decide,Tryz.func50.trans (congrArg some (by kernel_rfl))⟩,
 t0:=Tryz.underlying0,
 a0:=Tryz.isAgg0,
 z0:=Tryz.sizeOf0,
 v0:=Tryz.zeroValue0,
 t3:=Tryz.underlying3,
 a3:=Tryz.isAgg3,
 z3:=Tryz.sizeOf3,
 v3:=Tryz.zeroValue3,
 t4:=Tryz.underlying4,
 a4:=Tryz.isAgg4,
 z4:=Tryz.sizeOf4,
 v4:=Tryz.zeroValue4,
 t22:=Tryz.underlying40,
 a22:=Tryz.isAgg40,
 z22:=Tryz.sizeOf40,
 v22:=Tryz.zeroValue40,
 a23:=Tryz.isAgg3,
 z23:=Tryz.sizeOf3,
 t25:=Tryz.underlying52,
 a25:=Tryz.isAgg52,
 z25:=Tryz.sizeOf52,
 v25:=Tryz.zeroValue52 }
theorem keeps_of {d:Array Int} {i:Nat} (h:Lib.keeps d i=true) (h0:0<i):d[i]! ≠ d[i-1]! := by
 unfold Lib.keeps at h
 simp at h
 rcases h with h | h
 ·omega
 ·exact h
theorem keeps_not {d:Array Int} {i:Nat} (h:¬Lib.keeps d i=true):0<i∧d[i]! = d[i-1]! := by
 unfold Lib.keeps at h
 simp at h
 exact ⟨by omega,h.2⟩
section
variable {zs:List Int}
theorem arr_at {i:Nat} (h:i<zs.length):zs.toArray[i]! = zs[i]:=by
 rw [getElem!_pos _ _ (by simpa using h)];simp
theorem compact_mem {x:Int}:x∈Lib.compact zs↔x∈zs:=by
 unfold Lib.compact Lib.compactUpTo
 constructor
 ·intro h
  obtain ⟨i,hi,rfl⟩:=List.mem_map.1 h
  have hi2:=(List.mem_filter.1 hi).1
  rw [List.mem_range] at hi2
  rw [arr_at hi2]
  exact List.getElem_mem hi2
 ·intro h
  obtain ⟨i,hi,rfl⟩:=List.getElem_of_mem h
  have key:∀ i,∀ hi:i<zs.length,zs[i]∈((List.range zs.length).filter (Lib.keeps zs.toArray)).map (zs.toArray[·]!):=by
   intro i
   induction i with
   | zero=>
    intro hi
    refine List.mem_map.2 ⟨0,List.mem_filter.2 ⟨List.mem_range.2 hi,?_⟩,arr_at hi⟩
    unfold Lib.keeps;simp
   | succ i ih=>
    intro hi
    by_cases hk:Lib.keeps zs.toArray (i+1)=true
    ·exact List.mem_map.2 ⟨i+1,List.mem_filter.2 ⟨List.mem_range.2 hi,hk⟩,arr_at hi⟩
    ·have h2:=(keeps_not hk).2
     rw [Nat.add_sub_cancel,arr_at hi,arr_at (show i<zs.length by omega)] at h2
     rw [h2]
     exact ih (by omega)
  exact key i hi
theorem compact_asc (h:zs.Pairwise (· ≤ ·)):(Lib.compact zs).Pairwise (· < ·):=by
 unfold Lib.compact Lib.compactUpTo
 rw [List.pairwise_map,List.pairwise_filter]
 refine List.Pairwise.imp_of_mem (R:=(· < ·)) ?_ List.pairwise_lt_range
 intro i j hi hj hlt _ hkj
 rw [List.mem_range] at hi hj
 have hne:=keeps_of hkj (by omega)
 have hle:=fun a b (h1:a<b) (h2:b<zs.length)=>List.pairwise_iff_getElem.1 h a b (by omega) h2 h1
 rw [arr_at hj,arr_at (show j-1<zs.length by omega)] at hne
 rw [arr_at hi,arr_at hj]
 have h1:zs[j-1]≤zs[j]:=hle (j-1) j (by omega) hj
 have h2:zs[i]≤zs[j-1]:=by
  rcases Nat.lt_or_ge i (j-1) with h | h
  ·exact hle i (j-1) h (by omega)
  ·have:i=j-1:=by omega
   subst this;omega
 omega
theorem compact_len:(Lib.compact zs).length≤zs.length:=by
 unfold Lib.compact Lib.compactUpTo
 rw [List.length_map]
 have:=List.length_filter_le (Lib.keeps zs.toArray) (List.range zs.length)
 rwa [List.length_range] at this
end
theorem nodup_len {A B:List Int} (hA:A.Nodup) (h:∀ x∈A,x∈B):A.length≤B.length:=by
 induction A generalizing B with
 | nil=>exact Nat.zero_le _
 | cons a A ih=>
  obtain ⟨h1,h2⟩:=List.nodup_cons.1 hA
  have hb:=h a (List.mem_cons_self ..)
  have:=ih (B:=B.erase a) h2 (fun x hx=>(List.mem_erase_of_ne (fun (e:x=a)=>h1 (e ▸ hx))).2 (h x (List.mem_cons_of_mem _ hx)))
  rw [List.length_erase_of_mem hb] at this
  have:=List.length_pos_of_mem hb
  rw [List.length_cons];omega
def outP (n:Nat) (z:Int):Bool:=decide (z<1) || decide ((n:Int)-1<z)
def cutsF (n:Nat) (zs:List Int):List Int:=Lib.compact ((zs.filter fun z => !outP n z).mergeSort fun x y=>decide (x≤y))
theorem cuts_mem {n:Nat} {zs:List Int} {x:Int}:x∈cutsF n zs↔x∈zs∧0<x∧x<n:=by
 unfold cutsF
 rw [compact_mem,List.mem_mergeSort,List.mem_filter]
 unfold outP
 simp
 omega
theorem cuts_asc (n:Nat) (zs:List Int):(cutsF n zs).Pairwise (· < ·):=by
 unfold cutsF
 refine compact_asc ?_
 have:=List.pairwise_mergeSort (le:=fun x y:Int=>decide (x≤y)) (fun a b c h1 h2=>by simp at h1 h2 ⊢;omega) (fun a b=>by simp;omega) (zs.filter fun z => !outP n z)
 exact this.imp fun h=>by simpa using h
theorem cuts_len (n:Nat) (zs:List Int):(cutsF n zs).length≤zs.length:=by
 unfold cutsF
 have h1:=compact_len (zs:=(zs.filter fun z => !outP n z).mergeSort fun x y=>decide (x≤y))
 rw [List.length_mergeSort] at h1
 have h2:=List.length_filter_le (fun z => !outP n z) zs
 omega
def frL (L:Nat) (zs:List Int):Nat→List Int
 | 0=>[]
 | i+1=>frL L zs i++if 0<zs.getD i 0∧zs.getD i 0<(L:Int)∧zs.getD i 0∉zs.take i then [zs.getD i 0] else []
theorem frL_is (L:Nat) (zs:List Int):∀ i,i≤zs.length→(frL L zs i).length=frp L zs i∧(frL L zs i).Nodup∧∀ x∈frL L zs i,x∈zs.take i∧0<x∧x<L:=by
 intro i
 induction i with
 | zero=>intro _;exact ⟨rfl,List.nodup_nil,fun x hx=>by cases hx⟩
 | succ i ih=>
  intro hi
  obtain ⟨h1,h2,h3⟩:=ih (by omega)
  have hlt:i<zs.length:=by omega
  have hg:zs.getD i 0=zs[i]:=by rw [List.getD_eq_getElem?_getD,List.getElem?_eq_getElem hlt];rfl
  have ht:zs.take (i+1)=zs.take i++[zs.getD i 0]:=by rw [hg,List.take_succ_eq_append_getElem hlt]
  rw [frL,frp,List.length_append,h1]
  split
  ·rename_i hc
   refine ⟨rfl,?_,fun x hx=>?_⟩
   ·rw [List.nodup_append]
    refine ⟨h2,by simp,fun a ha b hb=>?_⟩
    rw [List.mem_singleton] at hb
    subst hb
    intro e
    subst e
    exact hc.2.2 (h3 _ ha).1
   ·rw [ht]
    rcases List.mem_append.1 hx with h | h
    ·exact ⟨List.mem_append_left _ (h3 x h).1,(h3 x h).2⟩
    ·rw [List.mem_singleton] at h
     subst h
     exact ⟨List.mem_append_right _ (List.mem_singleton_self _),hc.1,hc.2.1⟩
  ·refine ⟨rfl,by rw [List.append_nil];exact h2,fun x hx=>?_⟩
   rw [List.append_nil] at hx
   rw [ht]
   exact ⟨List.mem_append_left _ (h3 x hx).1,(h3 x hx).2⟩
theorem fr_cuts (n:Nat) (zs:List Int):fr n zs≤(cutsF n zs).length:=by
 obtain ⟨h1,h2,h3⟩:=frL_is n zs zs.length (Nat.le_refl _)
 unfold fr
 rw [←h1]
 exact nodup_len h2 fun x hx=>cuts_mem.2 ⟨by have:=(h3 x hx).1;rwa [List.take_length] at this,(h3 x hx).2⟩
def endsF (n:Nat) (zs:List Int):List Nat:=(cutsF n zs).map Int.toNat++[n]
theorem ends_ints (n:Nat) (zs:List Int):Y.ints (endsF n zs)=cutsF n zs++[(n:Int)]:=by
 unfold endsF Y.ints
 rw [List.map_append,List.map_map]
 congr 1
 have:∀ x∈cutsF n zs,((fun i:Nat=>(i:Int)) ∘ Int.toNat) x=x:=fun x hx=>by
  have:=(cuts_mem.1 hx).2.1
  show ((x.toNat:Nat):Int)=x
  omega
 rw [List.map_congr_left this]
 simp
theorem ends_ok (n:Nat) (zs:List Int):Ends n (endsF n zs):=by
 unfold endsF
 refine ⟨?_,by simp,fun e he=>?_⟩
 ·rw [List.pairwise_append]
  refine ⟨?_,List.pairwise_singleton _ _,fun a ha b hb=>?_⟩
  ·rw [List.pairwise_map]
   refine List.Pairwise.imp_of_mem (R:=(· < ·)) ?_ (cuts_asc n zs)
   intro a b ha hb h
   have:=(cuts_mem.1 ha).2.1
   show a.toNat<b.toNat
   omega
  ·obtain ⟨x,hx,rfl⟩:=List.mem_map.1 ha
   rw [List.mem_singleton] at hb
   subst hb
   have:=(cuts_mem.1 hx).2
   omega
 ·rcases List.mem_append.1 he with h | h
  ·obtain ⟨x,hx,rfl⟩:=List.mem_map.1 h
   have:=(cuts_mem.1 hx).2
   omega
  ·rw [List.mem_singleton] at h
   omega
theorem ends_len (n:Nat) (zs:List Int):fr n zs+1≤(endsF n zs).length∧(endsF n zs).length≤zs.length+1:=by
 have h1:=fr_cuts n zs
 have h2:=cuts_len n zs
 unfold endsF
 simp only [List.length_append,List.length_map,List.length_singleton]
 omega
section
open Go.RowKit Go.Sort
theorem one_int:OneCell fun z:Int=>Value.int .i64 z:=fun _=>rfl
theorem idx_none (a:Option Addr) (c:Nat) (v:Value) (w:World):Calls Tryz.prog 72 #[.slice a 0 c,v] w fun e w'=>e = .returned (.int .i64 (-1))∧w'=w:=by
 go_enter Tryz.func72,Tryz.ntmps72
 go_wp2
 refine wp_loop_rounds 1 ?_
 rw [rounds_succ]
 go_wp2
 go_ret
 exact ⟨rfl,rfl⟩
theorem del_none (a:Option Addr) (c:Nat) (v:Value) (w:World):Calls Tryz.prog 50 #[.slice a 0 c,v] w fun e w'=>e = .returned (.slice a 0 c)∧w'=w:=by
 go_enter Tryz.func50,Tryz.ntmps50
 go_wp2_with fail
 refine (idx_none _ _ _ _).mono ?_
 rintro e w' ⟨rfl,rfl⟩
 go_wp2
 go_ret
 exact ⟨rfl,rfl⟩
def Ri (B:Nat) (ao:Option Addr) (c:Nat) (zs:List Int) (w:World):Prop:=w.ownsRow B 3 1 (.slice ao zs.length c) zs.length (zs.map (Value.int .i64))
theorem clone_is {w:World} {zo:Option Addr} {zc:Nat} {zs:List Int} (h:IS w zo zs) (hl:zs.length≤100000):Calls Tryz.prog 51 #[.slice zo zs.length zc] w fun e w'=>∃ ao c,e = .returned (.slice ao zs.length c)∧Ri w.heap.size ao c zs w'∧Below w.heap.size w w':=by
 have done:∀ (v':Value) (w':World),w'.ownsRow w.heap.size 3 1 v' zs.length (zs.map (Value.int .i64))→Below w.heap.size w w'→∃ ao c,Ending.returned v' = .returned (.slice ao zs.length c)∧Ri w.heap.size ao c zs w'∧Below w.heap.size w w':=fun v' w' ho hb=>by
  obtain ⟨ao,c,rfl⟩:=own_shape ho
  exact ⟨ao,c,rfl,ho,hb⟩
 rcases h with rfl | ⟨b,off,rfl,hc⟩
 ·cases zo with
  | none=>
   refine (Any.slices_Clone_int_nil lclone 0 zc w).mono ?_
   rintro e w' ⟨rfl,rfl⟩
   exact ⟨none,0,rfl,⟨rfl,.inl ⟨rfl,rfl⟩⟩,Below.refl _ _⟩
  | some a=>
   refine (Any.slices_Clone_int_zero lclone a zc w).mono ?_
   rintro e w' ⟨v',rfl,ho,_,hb⟩
   exact done v' w' ho hb
 ·refine (Any.slices_Clone_int lclone b off zs.length zc zs w (Nat.le_refl _) (by omega) hc).mono ?_
  rintro e w' ⟨v',rfl,ho,_,hb⟩
  rw [List.take_length] at ho
  exact done v' w' ho hb
theorem Ri.some {B:Nat} {ao:Option Addr} {c:Nat} {zs:List Int} {w:World} (h:Ri B ao c zs w) (h0:zs≠[]):∃ g,ao=some ⟨g,0,none⟩∧B≤g∧g<w.heap.size∧zs.length≤c∧Holds (Value.int .i64) w g 0 zs.toArray:=by
 obtain ⟨g,cap,he,h1,h2,h3,_,_,h6⟩:=Lib.holds_of_ownsRow h (by
  intro e
  injection e with _ e1 _
  exact h0 (List.eq_nil_of_length_eq_zero e1))
 injection he with e1 _ e3
 subst e1;subst e3
 exact ⟨g,rfl,h1,h2,h3,h6⟩
theorem putRow_cell {enc:Int→Value} {w:World} {q g:Nat} {d:Array Int} {p:Nat} (hp:p≠g) (os:Array Obj) (v:Value) (h:w.cell? ⟨p,0,none⟩=some v):(sortWorld enc w g 0 q d os).cell? ⟨p,0,none⟩=some v:=by
 have hlt:=World.block_lt_of_cell? w _ h
 simp only [World.cell?] at h ⊢
 rw [←h]
 have e:(sortWorld enc w g 0 q d os).heap[p]? = w.heap[p]? := by
  unfold sortWorld
  first
   | rw [heap_grow_old _ _ (by simpa using hlt)]
   | skip
  simp [putRow,mapBlock,Sort.ahead,Array.getElem?_modify,Ne.symm hp]
 rw [e]
theorem del_ri {B:Nat} {ao:Option Addr} {c:Nat} {zs:List Int} {w:World} {p q n:Nat} (h:Ri B ao c zs w) (hl:zs.length≤100000) (hK:Kout w p q 1 ((n:Int)-1)) (hp:∀ g,ao=some ⟨g,0,none⟩→p≠g∧q≠g) :
  Calls Tryz.prog 50 #[.slice ao zs.length c,fnO p q] w fun e w'=>e = .returned (.slice ao (zs.filter fun z => !outP n z).length c)∧Ri B ao c (zs.filter fun z => !outP n z) w'∧Below B w w':=by
 by_cases h0:zs=[]
 ·subst h0
  refine (del_none ao c (fnO p q) w).mono ?_
  rintro e w' ⟨rfl,rfl⟩
  exact ⟨rfl,h,Below.refl _ _⟩
 ·obtain ⟨g,rfl,hb,hg,hzc,hH⟩:=h.some h0
  have hpg:=hp g rfl
  have give:∀ (W:World) (x:Int),Kout W p q 1 ((n:Int)-1)→FnGives Tryz.prog 40 #[.pointer (some ⟨p,0,none⟩),.pointer (some ⟨q,0,none⟩)] #[Value.int .i64 x] (.bool (outP n x)) W:=fun W x hK'=>by
   refine (out_is p q 1 ((n:Int)-1) x W hK').mono ?_
   rintro e w' ⟨rfl,rfl⟩
   refine ⟨?_,0,rfl⟩
   congr 2
   unfold outP
   by_cases a:x<1 <;> by_cases b:(n:Int)-1<x <;> simp [a,b]
  have hP:=AnyE.slices_DeleteFunc ldel (fun z:Int=>Value.int .i64 z) one_int (outP n) 40 #[.pointer (some ⟨p,0,none⟩),.pointer (some ⟨q,0,none⟩)]
   (fun args w=>by kernel_rfl) 0 (fun w=>by kernel_rfl) g 0 c zs.toArray w (fun W x hW=>give W x (hK.on hW))
   (fun k os dk x _=>give _ x ⟨putRow_cell hpg.1 os _ hK.lo,putRow_cell hpg.2 os _ hK.hi⟩) hH (by simp;omega) (by simpa using hzc)
  refine hP.mono ?_
  rintro e w' ⟨rfl,k,rfl⟩
  refine ⟨rfl,?_,Lib.below_putRow (Below.refl _ _) hb⟩
  have:=Lib.ownsRow_putRow (enc:=Value.int .i64) (q:=k) (k:=(zs.filter fun z => !outP n z).length) (ys:=(zs.filter fun z => !outP n z)++List.replicate (zs.length-(zs.filter fun z => !outP n z).length) 0) h (by
   have:=List.length_filter_le (fun z => !outP n z) zs
   rw [List.length_append,List.length_replicate];omega) (List.length_filter_le _ _)
  rw [List.take_left] at this
  unfold Ri
  simp only [List.size_toArray]
  exact this
theorem sort_ri {B:Nat} {ao:Option Addr} {c:Nat} {zs:List Int} {w:World} (h:Ri B ao c zs w) (hl:zs.length≤100000) :
  Calls Tryz.prog 52 #[.slice ao zs.length c] w fun e w'=>e = .returned (.tuple #[])∧Ri B ao c (zs.mergeSort fun x y=>decide (x≤y)) w'∧Below B w w':=by
 by_cases h0:zs=[]
 ·subst h0
  refine (Any.slices_Sort_int_none lsort ao c w).mono ?_
  rintro e w' ⟨rfl,rfl⟩
  exact ⟨rfl,by simpa using h,Below.refl _ _⟩
 ·obtain ⟨g,rfl,hb,hg,hzc,hH⟩:=h.some h0
  refine (Any.slices_Sort_int lsort g 0 c zs w hH hg (by omega)).mono ?_
  rintro e w' ⟨rfl,k,os,rfl⟩
  refine ⟨rfl,?_,?_⟩
  ·rcases h.2 with ⟨e0,_⟩ | ⟨g',cap',cur,e0,hb',hg',hn,hm,hs,ht⟩
   ·cases e0
   ·injection e0 with e1 _ e3
    injection e1 with e1
    injection e1 with e1
    subst e1;subst e3
    have:=ownsRow_sortedI (n:=k) (os:=os) (ts:=zs.mergeSort fun x y=>decide (x≤y)) (ss:=zs) (List.length_mergeSort zs) hb hg' hn hm hs
    unfold Ri
    rw [List.length_mergeSort]
    exact this
  ·have hgr:=grownBy_sortedI (w:=w) (g:=g) (n:=k) (os:=os) (zs.mergeSort fun x y=>decide (x≤y)).toArray
   exact ⟨hgr.os,hgr.tape,hgr.output,hgr.size,fun j hj=>hgr.block j (by omega) fun e=>by injection e;omega⟩
theorem comp_ri {B:Nat} {ao:Option Addr} {c:Nat} {zs:List Int} {w:World} (h:Ri B ao c zs w) (hl:zs.length≤100000) :
  Calls Tryz.prog 53 #[.slice ao zs.length c] w fun e w'=>e = .returned (.slice ao (Lib.compact zs).length c)∧Ri B ao c (Lib.compact zs) w'∧Below B w w':=by
 by_cases h0:zs=[]
 ·subst h0
  refine (Any.slices_Compact_int_empty lcomp ao c w).mono ?_
  rintro e w' ⟨rfl,rfl⟩
  exact ⟨rfl,h,Below.refl _ _⟩
 ·obtain ⟨g,rfl,hb,hg,hzc,hH⟩:=h.some h0
  refine (Any.slices_Compact_int lcomp g 0 c zs w hH (by omega) hzc).mono ?_
  rintro e w' ⟨rfl,k,rfl⟩
  refine ⟨rfl,?_,Lib.below_putRow (Below.refl _ _) hb⟩
  have hcl:=compact_len (zs:=zs)
  have:=Lib.ownsRow_putRow (enc:=Value.int .i64) (q:=k) (k:=(Lib.compact zs).length) (ys:=Lib.compact zs++List.replicate (zs.length-(Lib.compact zs).length) 0) h (by
   rw [List.length_append,List.length_replicate];omega) hcl
  rw [List.take_left] at this
  exact this
def EndsTo (n:Nat) (zs:List Int) (w:World) (e:Ending) (w':World):Prop:=∃ g c,e = .returned (.slice (some ⟨g,0,none⟩) (endsF n zs).length c)∧IS w' (some ⟨g,0,none⟩) (Y.ints (endsF n zs))∧(endsF n zs).length≤c∧Below w.heap.size w w'
theorem ints_own {w:World} {B:Nat} {v:Value} {zs:List Int} {n:Nat} (hn:n=zs.length) (h:w.ownsRow B 3 1 v n (zs.map (Value.int .i64))) (h0:zs≠[]):∃ g c,v = .slice (some ⟨g,0,none⟩) n c∧IS w (some ⟨g,0,none⟩) zs∧zs.length≤c:=by
 subst hn
 obtain ⟨ao,c,rfl⟩:=own_shape h
 obtain ⟨g,rfl,_,_,hc,hH⟩:=Ri.some h h0
 refine ⟨g,c,rfl,.inr ⟨g,0,rfl,fun j hj=>?_⟩,hc⟩
 have:=(hH j (by simpa using hj)).1
 rw [this]
 rw [arr_at hj,List.getD_eq_getElem?_getD,List.getElem?_eq_getElem hj]
 rfl
theorem int_cells (w:World) (z:Int):CellsAt (w.alloc (.cells #[.int .i64 z] 3)) (.slice (some ⟨w.heap.size,0,none⟩) 1 1) 1 [.int .i64 z]:=by
 refine .inr ⟨_,1,rfl,fun j u hu=>?_⟩
 rw [Addr.add_lit,Nat.zero_add,(Blk.made w 3 _).cell]
 simpa using hu
set_option maxHeartbeats 1600000 in
theorem ends_of {w:World} {zo:Option Addr} {zc n:Nat} {zs:List Int} (h:IS w zo zs) (hl:zs.length≤1000) (hn:n≤1000000):Calls Tryz.prog 33 #[.int .i64 (n:Nat),.slice zo zs.length zc] w (EndsTo n zs w):=by
 have HCL:=Lib.hid (clone_is (zc:=zc) h (by omega))
 have HZL:=Lib.hid hl
 obtain ⟨L,hL⟩:∃ L,L=zs.length:=⟨_,rfl⟩
 have HL:=Lib.hid hL
 rw [←hL] at HCL ⊢
 have e1:IntKind.i64.wrap ((n:Int)-1)=(n:Int)-1:=by rw [IntKind.wrap_i64];omega
 clear h hl hL
 go_enter Tryz.func33,Tryz.ntmps33
 go_wp2_with fail
 refine HCL.out.mono ?_
 rintro e w1 ⟨ao,c,rfl,ho,hb⟩
 have O1:=Lib.hid ho
 have B1:=Lib.hid hb
 clear ho hb HCL
 go_wp2_with fail
 refine (out_new 1 ((n:Int)-1) w1).mono ?_
 rintro e w2 ⟨p,q,rfl,hK,hb,hp,hq⟩
 have O2:Hid (Ri w.heap.size ao c zs w2):=Lib.hid (ownsRow_below O1.out hb)
 have B2:=Lib.hid (B1.out.on hb)
 have D2:=Lib.hid (del_ri (n:=n) O2.out (by have:=HZL.out;omega) hK fun g e=>by
  subst e
  have:=O1.out.lt g rfl
  omega)
 rw [←HL.out] at D2
 unfold fnO at D2
 unfold fnO
 clear hK hb hp hq O1 O2 B1
 go_wp2_with fail
 with_reducible refine D2.out.mono ?_
 rintro e w3 ⟨rfl,ho,hb⟩
 obtain ⟨fs,hfs⟩:∃ fs,fs=zs.filter fun z => !outP n z:=⟨_,rfl⟩
 have hfl:fs.length≤1000:=by
  have:=List.length_filter_le (fun z => !outP n z) zs
  have:=HZL.out
  rw [hfs];omega
 rw [←hfs] at ho ⊢
 have HFS:=Lib.hid hfs
 have B3:=Lib.hid (B2.out.trans hb)
 have S3:=Lib.hid (sort_ri ho (by omega))
 have HFL:=Lib.hid hfl
 obtain ⟨M,hM⟩:∃ M,M=fs.length:=⟨_,rfl⟩
 have HM:=Lib.hid hM
 rw [←hM] at S3 ⊢
 clear ho hb hfs hM hfl D2 B2
 go_wp2_with fail
 with_reducible refine S3.out.mono ?_
 rintro e w4 ⟨rfl,ho,hb⟩
 obtain ⟨ss,hss⟩:∃ ss,ss=fs.mergeSort fun x y=>decide (x≤y):=⟨_,rfl⟩
 have hsl:ss.length=M:=by rw [hss,List.length_mergeSort,HM.out]
 rw [←hss] at ho
 have HSS:=Lib.hid hss
 have B4:=Lib.hid (B3.out.trans hb)
 have C4:=Lib.hid (comp_ri ho (by have:=HFL.out;have:=HM.out;omega))
 rw [hsl] at C4
 have HSL:=Lib.hid hsl
 clear ho hb hss hsl S3 B3
 go_wp2_with fail
 with_reducible refine C4.out.mono ?_
 rintro e w5 ⟨rfl,ho,hb⟩
 obtain ⟨cs,hcs⟩:∃ cs,cs=Lib.compact ss:=⟨_,rfl⟩
 rw [←hcs] at ho ⊢
 have HCS:Hid (cs=cutsF n zs):=Lib.hid (by rw [hcs,HSS.out,HFS.out];rfl)
 have B5:=Lib.hid (B4.out.trans hb)
 have O5:=Lib.hid ho
 have hkl:cs.length≤1000:=by
  have:=compact_len (zs:=ss)
  have:=HSL.out;have:=HM.out;have:=HFL.out
  rw [hcs];omega
 obtain ⟨K,hK⟩:∃ K,K=cs.length:=⟨_,rfl⟩
 have HK:=Lib.hid hK
 have OW:Hid (w5.ownsRow w.heap.size 3 1 (.slice ao K c) K (cs.map (Value.int .i64))):=Lib.hid (by rw [hK];exact O5.out)
 rw [←hK] at hkl ⊢
 clear ho hb hcs hK C4 B4 O5
 have hsz:=B5.out.size
 go_wp2_with (refine wpList_append_g at22 rfl (.tmp 15) (.tmp 17) rfl w.heap.size (.slice ao K c) (.slice (some ⟨w5.heap.size,0,none⟩) 1 1) K 1 (cs.map (Value.int .i64)) [.int .i64 (n:Nat)] rfl rfl (World.ownsRow.alloc (w:=w5) OW.out _) (int_cells w5 _) rfl (fun u hu=>by rw [List.mem_singleton.1 hu];rfl) (by simp;omega) (by omega) (by omega) ?_;intro ao2 cc2 w6 hA;have HA:=Lib.hid hA;clear hA)
 go_ret
 have hcm:cs.map (Value.int .i64)++[.int .i64 (n:Nat)]=(cs++[(n:Int)]).map (Value.int .i64):=by simp
 have ho:=HA.out.own
 rw [hcm] at ho
 have hb6:Below w.heap.size w w6:=B5.out.trans ((HA.out.alloc).below OW.out hsz)
 obtain ⟨g,c',he,hI,hc'⟩:=ints_own (by rw [List.length_append,←HK.out];rfl) ho (by simp)
 have hlen:(endsF n zs).length=K+1:=by
  have:=congrArg List.length (ends_ints n zs)
  rw [Y.ints_len,List.length_append,←HCS.out,←HK.out] at this
  exact this
 refine ⟨g,c',by rw [hlen];exact congrArg _ he,?_,?_,hb6⟩
 ·rw [ends_ints,←HCS.out];exact hI
 ·rw [hlen];rw [List.length_append,←HK.out] at hc';exact hc'
end
section
open Go.RowKit
set_option maxHeartbeats 1600000 in
theorem stored_upto0 (ao:Option Addr) (c:Nat) (hac:ao=none→c=0) {w:World} {q ce:Nat} (hq:w.cell? ⟨q,0,none⟩=some (.int .i64 0)) :
  Calls Tryz.prog 32 #[.slice ao 0 c,.slice (some ⟨q,0,none⟩) 1 ce] w (Kept w (byts (stoS 0 [] true))):=by
 have HAC:=Lib.hid hac
 have HQ:=Lib.hid hq
 clear hac hq
 go_enter Tryz.func32,Tryz.ntmps32
 go_wp2_with fail
 refine (writer_new w).mono ?_
 rintro e w1 ⟨pw,rfl,hw,hbl⟩
 have W1:=Lib.hid hw
 have B1:=Lib.hid hbl
 clear hw hbl
 go_upto_region 2 with fail
 obtain ⟨w2,hw2⟩:∃ w2,w2=w1.alloc (.cells #[.pointer (some ⟨pw,0,none⟩),.slice none 0 0,.slice none 0 0,.pointer none,.pointer none] 91):=⟨_,rfl⟩
 obtain ⟨pk,hpk⟩:∃ q,q=w1.heap.size:=⟨_,rfl⟩
 have B12:Hid (Below w1.heap.size w1 w2):=Lib.hid (by rw [hw2];exact (Below.refl _ _).alloc (Nat.le_refl _) _)
 have PK2:Hid (PkO w2 pk pw):=Lib.hid ⟨_,by rw [hw2,hpk];exact Blk.made _ _ _,rfl⟩
 have W2:=Lib.hid (W1.out.grow B12.out)
 have B2:=Lib.hid (B1.out.on B12.out)
 rw [←hw2,←hpk]
 clear hw2 hpk B12 W1 B1
 have q2:=(B2.out.cell (p:=⟨q,0,none⟩) (World.block_lt_of_cell? w _ HQ.out)).trans HQ.out
 have HSN:=Lib.hid (sto_nil ao c HAC.out W2.out PK2.out (Nat.zero_le _) true)
 have HSC:Hid (Calls Tryz.prog 48 #[.pointer (some ⟨pk,0,none⟩),.slice ao 0 c,.bool true] w2 fun e w'=>e = .returned (.tuple #[])∧∃ W3,W3=w'∧PkO W3 pk pw∧(∃ g1,Wq W3 w.heap.size pw g1 (stoS 0 [] true))∧Below w.heap.size w2 W3):=Lib.hid (HSN.out.mono fun e w' k=>by
  have hq:Pq w2 w.heap.size pw none (stoS 0 [] true) w':=by
   have:=k.2
   rw [List.nil_append] at this
   rw [stoS_small 0 true (Nat.zero_le _)]
   exact this
  obtain ⟨g1,hw1,_⟩:=hq.then
  exact ⟨k.1,w',rfl,PK2.out.keep W2.out hq,⟨g1,hw1⟩,PutTo.low hq W2.out⟩)
 clear HSN
 rcases ao with _ | ad
 ·obtain rfl:c=0:=HAC.out rfl
  go_wp2_with fail
  refine wp_loop_rounds 2 ?_
  rw [rounds_succ]
  go_wp2_with fail
  with_reducible refine HSC.out.mono ?_
  rintro e' w4 ⟨rfl,W3,rfl,hpk,⟨g1,hw1⟩,hlow⟩
  have c0:=hpk.cell
  have HL:=Lib.hid hlow
  have HO:=Lib.hid (Wq.out hw1 (stoS_fit 0 true Bs.nil) (by have:=stoS_wid 0 [] true;simp at this;omega))
  clear hpk hw1 hlow HSC
  go_wp2_with fail
  rw [rounds_succ]
  go_wp2_with fail
  with_reducible refine HO.out.mono ?_
  rintro e' w5 ⟨ao,c,rfl,hown,hbl⟩
  have HF:=Lib.hid (And.intro hown hbl)
  clear hown hbl HO
  go_wp2
  go_ret
  have hb1:=B2.out.trans HL.out
  exact ⟨ao,c,rfl,own_base HF.out.1 hb1.size,hb1.trans (HF.out.2.mono hb1.size)⟩
 ·go_wp2_with fail
  refine wp_loop_rounds 2 ?_
  rw [rounds_succ]
  go_wp2_with fail
  with_reducible refine HSC.out.mono ?_
  rintro e' w4 ⟨rfl,W3,rfl,hpk,⟨g1,hw1⟩,hlow⟩
  have c0:=hpk.cell
  have HL:=Lib.hid hlow
  have HO:=Lib.hid (Wq.out hw1 (stoS_fit 0 true Bs.nil) (by have:=stoS_wid 0 [] true;simp at this;omega))
  clear hpk hw1 hlow HSC
  go_wp2_with fail
  rw [rounds_succ]
  go_wp2_with fail
  with_reducible refine HO.out.mono ?_
  rintro e' w5 ⟨ao,c,rfl,hown,hbl⟩
  have HF:=Lib.hid (And.intro hown hbl)
  clear hown hbl HO
  go_wp2
  go_ret
  have hb1:=B2.out.trans HL.out
  exact ⟨ao,c,rfl,own_base HF.out.1 hb1.size,hb1.trans (HF.out.2.mono hb1.size)⟩
theorem stored_zero {w:World} (ao:Option Addr) (c:Nat) (hac:ao=none→c=0):Calls Tryz.prog 17 #[.slice ao 0 c] w (Kept w (stoF [])):=by
 obtain ⟨w1,hw1⟩:∃ w1,w1=w.alloc (.cells #[.int .i64 0] 3):=⟨_,rfl⟩
 obtain ⟨q,hq⟩:∃ q,q=w.heap.size:=⟨_,rfl⟩
 have B1:Hid (Below w.heap.size w w1):=Lib.hid (by rw [hw1];exact (Below.refl _ _).alloc (Nat.le_refl _) _)
 have h:=stored_upto0 (ce:=1) ao c hac (w:=w1) (q:=q) (by rw [hw1,hq,(Blk.made w 3 _).cell];rfl)
 rw [stoF_byts Bs.nil] at h
 have HC:=Lib.hid h
 clear h hac
 go_enter Tryz.func17,Tryz.ntmps17
 go_wp2_with fail
 rw [←hw1,←hq]
 clear hw1 hq
 with_reducible refine HC.out.mono ?_
 rintro e' w4 ⟨ao,c,rfl,hown,hbl⟩
 have HF:=Lib.hid (And.intro hown hbl)
 clear hown hbl HC
 go_wp2
 go_ret
 exact ⟨ao,c,rfl,own_base HF.out.1 B1.out.size,B1.out.on HF.out.2⟩
theorem Stored_any {w:World} {v:Value} {bs:List Nat} (hs:BySl w v bs) (hb:Bs bs) (hl:bs.length≤300000):Calls Tryz.prog 17 #[v] w (Kept w (stoF bs)):=by
 by_cases h0:0<bs.length
 ·obtain ⟨b,off,c,rfl,hc,_⟩:=hs.at h0
  exact stored_some hs hb hl h0 hc
 ·have hn:bs=[]:=List.eq_nil_of_length_eq_zero (by omega)
  subst hn
  rcases hs with ⟨rfl,_⟩ | ⟨ad,c,rfl,_,_⟩
  ·exact stored_zero none 0 fun _=>rfl
  ·exact stored_zero (some ad) c fun h=>by cases h
def sszF:List Nat→Nat→Nat
 | [],_=>0
 | e::es,a=>bnd (e-a)+sszF es e
theorem sszF_go (ends:List Nat) {i:Nat} (hi:i<ends.length):sszF (ends.drop i) (atF ends i)=bnd (ends.getD i 0-atF ends i)+sszF (ends.drop (i+1)) (atF ends (i+1)):=by
 have e:ends.getD i 0=ends[i]:=by rw [List.getD_eq_getElem?_getD,List.getElem?_eq_getElem hi];rfl
 have e2:atF ends (i+1)=ends[i]:=by unfold atF;rw [if_neg (by omega),Nat.add_sub_cancel,e]
 rw [List.drop_eq_getElem_cons hi,sszF,e2,e]
set_option maxHeartbeats 1600000 in
theorem ssize_any {w:World} {ce:Nat} {ends:List Nat} {eo:Option Addr} (hi:IS w eo (Y.ints ends)) (hE:∀ i,i<ends.length→atF ends i≤ends.getD i 0∧ends.getD i 0≤300000) (hel:ends.length≤1000) :
  Calls Tryz.prog 35 #[.slice eo ends.length ce] w fun e w'=>e = .returned (.int .i64 (sszF ends 0:Nat))∧Below w.heap.size w w':=by
 obtain ⟨L,hL⟩:∃ n,n=ends.length:=⟨_,rfl⟩
 have HL:=Lib.hid hL
 have HE:=Lib.hid hE
 have HI:=Lib.hid hi
 obtain ⟨T,hT⟩:∃ n,n=sszF ends 0:=⟨_,rfl⟩
 have HT:=Lib.hid hT
 rw [←hT,←hL]
 rw [←hL] at hel
 clear hL hE hi hT
 go_enter Tryz.func35,Tryz.ntmps35
 go_wp2_with fail
 go_loopw [3,4,9] (fun v3 v4 v9 wr=>∃ (i s:Nat),i≤L∧v3 = .int .i64 (s:Nat)∧v4 = .int .i64 (atF ends i:Nat)∧v9 = .int .i64 (i:Nat)∧s≤i*300100∧Hid (s+sszF (ends.drop i) (atF ends i)=T)∧Hid (Below w.heap.size w wr)) (fun _ _ v9 _=>L-(intOf v9).toNat)
 case atStart=>exact ⟨0,0,Nat.zero_le _,rfl,rfl,rfl,Nat.zero_le _,Lib.hid (by rw [HT.out,Nat.zero_add];rfl),Lib.hid (Below.refl _ _)⟩
 case round=>
  obtain ⟨i,s,hi,rfl,rfl,rfl,hs,HX,HB⟩:=hrel
  obtain ⟨a,ha⟩:∃ a,a=atF ends i:=⟨_,rfl⟩
  have HA:=Lib.hid ha
  rw [←ha]
  clear ha
  by_cases hlt:i<L
  ·have hlt':(i:Int)<L:=by omega
   have hie:i<ends.length:=by rw [←HL.out];exact hlt
   obtain ⟨e,he⟩:∃ e,e=ends.getD i 0:=⟨_,rfl⟩
   have hae:=HE.out i hie
   rw [←HA.out,←he] at hae
   obtain ⟨hae1,hae2⟩:=hae
   obtain ⟨bi,oi,rfl,q1⟩:=(IS.below HI.out HB.out).at (show i<(Y.ints ends).length by rw [Y.ints_len];exact hie)
   rw [Y.ints_at,←he] at q1
   obtain ⟨m,hm⟩:∃ m,m=e-a:=⟨_,rfl⟩
   obtain ⟨B,hB⟩:∃ B,B=bnd m:=⟨_,rfl⟩
   have hB3:B≤300100:=by rw [hB];unfold bnd;omega
   have HG:Hid (s+B+sszF (ends.drop (i+1)) (atF ends (i+1))=T):=Lib.hid (by have:=HX.out;rw [sszF_go ends hie,←HA.out,←he,←hm,←hB] at this;omega)
   have HA2:Hid (atF ends (i+1)=e):=Lib.hid (by unfold atF;rw [if_neg (by omega),Nat.add_sub_cancel,he])
   have hmi:(e:Int)-a=(m:Int):=by omega
   have HBD:Hid (∀ W,Calls Tryz.prog 14 #[.int .i64 (m:Nat)] W fun e w'=>e = .returned (.int .i64 (B:Nat))∧Below W.heap.size W w'):=Lib.hid fun W=>by rw [hB];exact bound_ok W m (by omega)
   have hs9:s≤300100000:=by
    have:=Nat.mul_le_mul_right 300100 (show i≤1000 by omega)
    omega
   have hs2:s+B≤(i+1)*300100:=by rw [Nat.add_mul];omega
   have HS2:=Lib.hid hs2
   have hm9:m≤300000:=by omega
   clear hm hB he hie hs hs2
   go_wp2_with fail
   with_reducible refine (HBD.out _).mono ?_
   rintro e' w4 ⟨rfl,hb⟩
   have HB4:=Lib.hid (HB.out.on hb)
   clear hb
   go_wp2
   go_roundw
   case rel=>exact ⟨i+1,s+B,by omega,by go_num,by rw [HA2.out],by go_num,HS2.out,HG,HB4⟩
   case measure=>simp [intOf];omega
  ·obtain rfl:i=L:=by omega
   have HPE:Hid (s=T):=Lib.hid (by
    have h5:=HX.out
    rw [HL.out,List.drop_length] at h5
    exact h5)
   clear hs
   go_wp2
   go_ret
   exact ⟨by rw [←HPE.out];rfl,HB.out⟩
set_option maxHeartbeats 3200000 in
theorem packed_zero {w:World} {bo:Option Addr} {cb q ce:Nat} (level:Int) (hlev:0<level) (hTM:V.TabM w) (hTD:TabD w) (hbo:bo=none→cb=0) (hq:w.cell? ⟨q,0,none⟩=some (.int .i64 0)) :
  Calls Tryz.prog 34 #[.slice bo 0 cb,.int .i64 level,.slice (some ⟨q,0,none⟩) 1 ce] w (Kept w (byts (blkF 0 [] [] true))):=by
 have HTD:=Lib.hid hTD
 have hz:2≤w.heap.size:=World.block_lt_of_cell? w _ (hTD 0 (by decide))
 have HTM:=Lib.hid hTM
 have HQ:=Lib.hid hq
 have HSB:Hid (∀ W,BySl W (.slice bo 0 cb) []):=Lib.hid fun W=>by
  rcases bo with _ | ad
  ·obtain rfl:=hbo rfl
   exact .inl ⟨rfl,rfl⟩
  ·exact .inr ⟨ad,cb,rfl,Nat.zero_le _,fun j u hu=>by simp [u8s] at hu⟩
 have HBO:=Lib.hid hbo
 clear hTM hTD hbo hq
 go_enter Tryz.func34,Tryz.ntmps34
 go_wp2_with fail
 refine (packer_new w).mono ?_
 rintro e w1 ⟨pk,pw,lb,db,lc,dc,c1,c2,rfl,hw,hp,hbl⟩
 have W1:=Lib.hid hw
 have P1:=Lib.hid hp
 have B1:=Lib.hid hbl
 clear hw hp hbl
 have HF:=Lib.hid (V.find_any w1 (.slice bo 0 cb) [] level (V.TabM.keep HTM.out B1.out) (HSB.out w1) Bs.nil (by decide))
 go_wp2_with fail
 refine HF.out.mono ?_
 rintro e w2 ⟨ao,c,r,rfl,hks,hbl,hrc,hex,hlit,_,_,hrF⟩
 have hr:r=[]:=by
  have h1:=V.M.ex_len hex
  have h2:=V.M.len_le_sum r
  simp at h1
  exact List.eq_nil_of_length_eq_zero (by omega)
 subst hr
 obtain rfl:ao=none:=hrc.2.2 hlev rfl
 obtain rfl:c=0:=hrc.2.1 rfl
 have W2:=Lib.hid (W1.out.grow hbl)
 have P2:=Lib.hid (P1.out.grow hbl)
 have B2:=Lib.hid (B1.out.on hbl)
 have q2:=(B2.out.cell (p:=⟨q,0,none⟩) (World.block_lt_of_cell? w _ HQ.out)).trans HQ.out
 clear hks hbl hrc hex hlit hrF HF W1 P1 B1
 go_wp2_with fail
 refine (apart_one _ _ _ _ _ _ _).mono ?_
 rintro e w3 ⟨rfl,rfl⟩
 have HUP:Hid (Calls Tryz.prog 57 #[.slice none 0 0,.int .i64 0] w3 fun e w'=>e = .returned (.tuple #[.int .i64 0,.int .i64 0])∧Below w3.heap.size w3 w'):=Lib.hid (upto_any (ao:=none) (cr:=0) (r:=[]) 0 (.inl rfl) (by decide) (fun t h=>by cases h) (by decide))
 have HPB:Hid (∀ w5,Below w3.heap.size w3 w5→Calls Tryz.prog 58 #[.pointer (some ⟨pk,0,none⟩),.slice none 0 0,.slice bo 0 cb,.bool true] w5 fun e w'=>e = .returned (.tuple #[])∧Pq w3 w.heap.size pw none (blkF 0 [] [] true) w'):=Lib.hid fun w5 hb5=>by
  have:=pblock_any (cr:=0) (cb:=cb) (bo:=bo) (ao:=none) (r:=[]) (b:=[]) (W2.out.grow hb5) (P2.out.grow hb5) ((HTD.out.grow B2.out).grow hb5) hz (Nat.zero_le _) (.inl rfl) (fun b off e=>by cases e) (fun b off e=>by cases e) (by decide) (fun t h=>by cases h) (HSB.out w5) (fun h=>by cases h) Bs.nil (by decide) true
  refine this.mono ?_
  rintro e w' ⟨rfl,hq⟩
  exact ⟨rfl,Pq.back hb5 hq⟩
 go_wp2_with fail
 refine wp_loop_rounds 2 ?_
 rw [rounds_succ]
 go_wp2_with fail
 refine wp_loop_rounds 2 ?_
 rw [rounds_succ]
 go_wp2_with fail
 with_reducible refine HUP.out.mono ?_
 rintro e' w5 ⟨rfl,hb5⟩
 have HPB5:=Lib.hid (HPB.out w5.drew (hb5.on (below_drew1 w5)))
 have HB5:=Lib.hid hb5
 clear hb5 HUP HPB
 have hcb:cb=0∨¬cb=0:=by omega
 have hpos:bo=none∧cb=0∨∃ ad:Addr,bo=some ad:=by
  rcases bo with _ | ad
  ·exact .inl ⟨rfl,HBO.out rfl⟩
  ·exact .inr ⟨ad,rfl⟩
 have HWO:Hid (∀ w',Pq w3 w.heap.size pw none (blkF 0 [] [] true) w'→w'.cell? ⟨pk,0,none⟩=some (.pointer (some ⟨pw,0,none⟩))∧Calls Tryz.prog 49 #[.pointer (some ⟨pw,0,none⟩)] w' (fun e w2=>∃ a c,e = .returned (.slice a (byts (blkF 0 [] [] true)).length c)∧Kept w (byts (blkF 0 [] [] true)) (.returned (.slice a (byts (blkF 0 [] [] true)).length c)) w2)):=Lib.hid fun w' hq=>by
  obtain ⟨g1,hw1,_⟩:=hq.then
  refine ⟨(P2.out.keep W2.out hq).a.o.cell,?_⟩
  refine (Wq.out hw1 (blkF_fit (pos:=0) (r:=[]) (b:=[]) true (fun t h=>by cases h) Bs.nil (by decide)) (by
   have:=blkF_wid (pos:=0) (r:=[]) (b:=[]) true (fun t h=>by cases h) (by decide)
   have h2:asSto 0 ([]:List Nat).length=40:=by decide
   omega)).mono ?_
  rintro e' w4 ⟨ao',c',rfl,hown,hbl⟩
  have hb1:Below w.heap.size w w':=B2.out.trans (PutTo.low hq W2.out)
  exact ⟨ao',c',rfl,ao',c',rfl,own_base hown hb1.size,hb1.trans (hbl.mono hb1.size)⟩
 clear HTM HQ HSB HTD W2 P2 B2 HB5
 have hw0:IntKind.i64.wrap (0:Int)=0:=by rw [IntKind.wrap_i64];decide
 rcases hpos with ⟨rfl,rfl⟩ | ⟨⟨xb,xo,xs⟩,rfl⟩
 ·clear hcb
  go_wp2_with fail
  go_still_tail 16,(by kernel_rfl)
  change wpList _ _ _ _ _ w5.drew
  go_wp2_with fail
  with_reducible refine HPB5.out.mono ?_
  rintro e' w6 ⟨rfl,hq⟩
  obtain ⟨c0,hwo⟩:=HWO.out w6 hq
  have HC:=Lib.hid hwo
  clear hq hwo
  go_wp2_with fail
  rw [rounds_succ]
  go_wp2_with fail
  rw [rounds_succ]
  go_wp2_with fail
  with_reducible refine HC.out.mono ?_
  rintro e' w7 ⟨a,c,rfl,hk⟩
  have HK:=Lib.hid hk
  clear hk
  go_wp2
  go_ret
  exact HK.out
 ·rcases hcb with rfl | hcb
  all_goals
   go_wp2_with fail
   go_still_tail 16,(by kernel_rfl)
   change wpList _ _ _ _ _ w5.drew
   go_wp2_with fail
   with_reducible refine HPB5.out.mono ?_
   rintro e' w6 ⟨rfl,hq⟩
   obtain ⟨c0,hwo⟩:=HWO.out w6 hq
   have HC:=Lib.hid hwo
   clear hq hwo
   go_wp2_with fail
   rw [rounds_succ]
   go_wp2_with fail
   rw [rounds_succ]
   go_wp2_with fail
   with_reducible refine HC.out.mono ?_
   rintro e' w7 ⟨a,c,rfl,hk⟩
   have HK:=Lib.hid hk
   clear hk
   go_wp2
   go_ret
   exact HK.out
theorem find_nil (level:Int):V.findF [] level=[]:=by
 have h:=(findF_ex (bs:=[]) level Bs.nil (by decide)).1
 have h1:=V.M.ex_len h
 have h2:=V.M.len_le_sum (V.findF [] level)
 simp at h1
 exact List.eq_nil_of_length_eq_zero (by omega)
theorem pk_nil:(pkS [] [0] ⟨[],0,[]⟩).P=blkF 0 [] [] true:=one_blk (bs:=[]) (r:=[]) rfl (by decide)
theorem ends_one:∀ (ends:List Nat),Ends 0 ends→ends=[0]:=by
 intro ends h
 have hz:∀ e∈ends,e=0:=fun e he=>Nat.le_zero.1 (h.pos e he).1
 match ends,h.asc,h.last,hz with
 | [],_,hl,_=>simp at hl
 | [x],_,_,hz=>rw [hz x (List.mem_singleton_self _)]
 | x::y::r,ha,_,hz=>
  have h1:=(List.pairwise_cons.1 ha).1 y (by simp)
  have h2:=hz x (by simp)
  have h3:=hz y (by simp)
  omega
theorem packed_any {w:World} {v:Value} {q ce:Nat} {bs ends:List Nat} (level:Int) (hlev:0<level) (hTM:V.TabM w) (hTD:TabD w) (hs:BySl w v bs) (hb:Bs bs) (hl:bs.length≤5000)
  (hi:IS w (some ⟨q,0,none⟩) (Y.ints ends)) (hE:Ends bs.length ends) (hce:ends.length≤ce) (hel:ends.length≤1000) :
  Calls Tryz.prog 34 #[v,.int .i64 level,.slice (some ⟨q,0,none⟩) ends.length ce] w fun e w'=>∃ R,AP bs ends R∧(ends.length=1→R=V.findF bs level)∧Kept w (byts (pkS bs ends ⟨R,0,[]⟩).P) e w':=by
 by_cases h0:0<bs.length
 ·obtain ⟨b,off,c,rfl,hc,_⟩:=hs.at h0
  have h1:1≤ends.length:=by
   rcases Nat.eq_zero_or_pos ends.length with h | h
   ·have:=hE.last
    rw [List.eq_nil_of_length_eq_zero h] at this
    simp at this
   ·exact h
  exact packed_some level hTM hTD hs hb hl h0 hc hi hE hce h1 hel
 ·obtain rfl:bs=[]:=List.eq_nil_of_length_eq_zero (by omega)
  obtain rfl:=ends_one ends hE
  have q0:w.cell? ⟨q,0,none⟩=some (.int .i64 0):=by
   obtain ⟨bi,oi,hbo,q1⟩:=hi.at (show 0<(Y.ints [0]).length by decide)
   cases hbo
   exact q1
  obtain ⟨bo,cb,rfl,hbo⟩:∃ bo cb,v = .slice bo 0 cb∧(bo=none→cb=0):=by
   rcases hs with ⟨rfl,_⟩ | ⟨ad,c,rfl,_⟩
   ·exact ⟨none,0,rfl,fun _=>rfl⟩
   ·exact ⟨some ad,c,rfl,fun h=>by cases h⟩
  refine (packed_zero level hlev hTM hTD hbo q0).mono ?_
  intro e w' hk
  refine ⟨[],ap_one rfl (fun t h=>by cases h),fun _=>(find_nil level).symm,?_⟩
  rw [pk_nil]
  exact hk
theorem stoU_any {w:World} {v:Value} {q ce:Nat} {bs ends:List Nat} (hs:BySl w v bs) (hb:Bs bs) (hl:bs.length≤5000) (hi:IS w (some ⟨q,0,none⟩) (Y.ints ends)) (hE:Ends bs.length ends) (hel:ends.length≤1000) :
  Calls Tryz.prog 32 #[v,.slice (some ⟨q,0,none⟩) ends.length ce] w (Kept w (byts (stU bs ends 0 []))):=by
 by_cases h0:0<bs.length
 ·obtain ⟨b,off,c,rfl,hc,_⟩:=hs.at h0
  refine stored_upto hs hb (by omega) hc hi (fun i hi'=>?_) hel
  have h1:=ends_at hE hi'
  refine ⟨?_,h1.1⟩
  unfold atF
  split
  ·rename_i hz
   subst hz
   have h4:ends.getD 0 0∈ends:=by rw [List.getD_eq_getElem?_getD,List.getElem?_eq_getElem hi'];exact List.getElem_mem hi'
   have:=(hE.pos _ h4).2
   omega
  ·have:=(ends_at hE (show i-1<ends.length by omega)).2.1 (by omega)
   rwa [show i-1+1=i by omega] at this
 ·obtain rfl:bs=[]:=List.eq_nil_of_length_eq_zero (by omega)
  obtain rfl:=ends_one ends hE
  have q0:w.cell? ⟨q,0,none⟩=some (.int .i64 0):=by
   obtain ⟨bi,oi,hbo,q1⟩:=hi.at (show 0<(Y.ints [0]).length by decide)
   cases hbo
   exact q1
  obtain ⟨bo,cb,rfl,hbo⟩:∃ bo cb,v = .slice bo 0 cb∧(bo=none→cb=0):=by
   rcases hs with ⟨rfl,_⟩ | ⟨ad,c,rfl,_⟩
   ·exact ⟨none,0,rfl,fun _=>rfl⟩
   ·exact ⟨some ad,c,rfl,fun h=>by cases h⟩
  exact stored_upto0 bo cb hbo q0
theorem stU_step {bs:List Nat} (hb:Bs bs) (hl:bs.length≤65535) {a e k:Nat} {P:List (Nat × Nat)} (hnl:NL bs.length P (bs.take a) k) (hf:Fitp P) (hae:a≤e) (he:e≤bs.length) (last:Bool) :
  (last=false→NL bs.length (P++stoS (wid P) ((bs.drop a).take (e-a)) last) (bs.take e) (k+1))∧Fitp (P++stoS (wid P) ((bs.drop a).take (e-a)) last)∧
   (last=true→e=bs.length→∀ out,Holds8 out (P++stoS (wid P) ((bs.drop a).take (e-a)) last)→∃ st,infl out bs.length = .ok () ⟨wid (P++stoS (wid P) ((bs.drop a).take (e-a)) last),bs,st,k+1⟩):=by
 have hlen:((bs.drop a).take (e-a)).length=e-a:=by rw [List.length_take,List.length_drop];omega
 have hb2:Bs ((bs.drop a).take (e-a)):=fun x h=>hb x (List.mem_of_mem_drop (List.mem_of_mem_take h))
 have hs:stoS (wid P) ((bs.drop a).take (e-a)) last=stoP (wid P) ((bs.drop a).take (e-a)) last:=stoS_small _ last (by omega)
 have ht:bs.take e=bs.take a++(bs.drop a).take (e-a):=by
  have:=List.take_add (l:=bs) (i:=a) (j:=e-a)
  rwa [show a+(e-a)=e by omega] at this
 have hB:=blk_stored (lim:=bs.length) (pos:=wid P) (o:=bs.take a) last hb2 (by omega) (by rw [List.length_take,hlen];omega)
 rw [←hs,←ht] at hB
 refine ⟨fun h=>?_,hf.app (stoS_fit _ _ hb2),fun h he' out ho=>?_⟩
 ·subst h;exact hnl.snoc hB
 ·subst h
  obtain ⟨st,h1⟩:=hnl.done hB ho
  rw [he',List.take_length] at h1
  rw [he']
  exact ⟨st,h1⟩
theorem stU_ok {bs:List Nat} (hb:Bs bs) (hl:bs.length≤65535):∀ (es:List Nat) (a k:Nat) (P:List (Nat × Nat)),es.Pairwise (· < ·)→es.getLast? = some bs.length→(∀ e∈es,a≤e∧e≤bs.length)→NL bs.length P (bs.take a) k→Fitp P→
  Fitp (stU bs es a P)∧∀ out,Holds8 out (stU bs es a P)→∃ st j,k+es.length≤j∧infl out bs.length = .ok () ⟨wid (stU bs es a P),bs,st,j⟩:=by
 intro es
 induction es with
 | nil=>intro a k P _ h;simp at h
 | cons e es ih=>
  intro a k P hasc hlast hin hnl hf
  obtain ⟨p1,p2⟩:=List.pairwise_cons.1 hasc
  obtain ⟨q1,q2⟩:=hin e (List.mem_cons_self ..)
  obtain ⟨s1,s2,s3⟩:=stU_step hb hl hnl hf q1 q2 (decide (e=bs.length))
  rw [stU]
  rcases es with _ | ⟨e2,es⟩
  ·have he:e=bs.length:=by simpa using hlast
   rw [stU]
   refine ⟨s2,fun out ho=>?_⟩
   obtain ⟨st,h⟩:=s3 (decide_eq_true he) he out ho
   exact ⟨st,k+1,by simp,h⟩
  ·have hlt:e<bs.length:=by
    have:=p1 e2 (List.mem_cons_self ..)
    have:=(hin e2 (by simp)).2
    omega
   obtain ⟨f1,f2⟩:=ih e (k+1) _ p2 (by rw [←hlast];rfl) (fun x hx=>⟨Nat.le_of_lt (p1 x hx),(hin x (List.mem_cons_of_mem _ hx)).2⟩) (s1 (decide_eq_false (by omega))) s2
   refine ⟨f1,fun out ho=>?_⟩
   obtain ⟨st,j,h1,h2⟩:=f2 out ho
   refine ⟨st,j,?_,h2⟩
   simp only [List.length_cons] at h1 ⊢
   omega
theorem sszF_le {n:Nat} (hn:n≤65535):∀ (es:List Nat) (a:Nat),a≤n→(∀ e∈es,e≤n)→es.Pairwise (· < ·)→(∀ e∈es,a≤e)→sszF es a≤(n-a)+5*es.length:=by
 intro es
 induction es with
 | nil=>intro a _ _ _ _;exact Nat.zero_le _
 | cons e es ih=>
  intro a ha hin hasc hlo
  obtain ⟨p1,p2⟩:=List.pairwise_cons.1 hasc
  have h1:=hin e (List.mem_cons_self ..)
  have h2:=hlo e (List.mem_cons_self ..)
  have h3:=ih e h1 (fun x hx=>hin x (List.mem_cons_of_mem _ hx)) p2 (fun x hx=>Nat.le_of_lt (p1 x hx))
  rw [sszF,List.length_cons]
  have h4:bnd (e-a)=(e-a)+5:=by unfold bnd;omega
  omega
theorem stU_wid (bs:List Nat):∀ (es:List Nat) (a:Nat) (P:List (Nat × Nat)),(∀ e∈es,e≤bs.length)→es.Pairwise (· < ·)→(∀ e∈es,a≤e)→a≤bs.length→wid (stU bs es a P)≤wid P+42*es.length+9*(bs.length-a):=by
 intro es
 induction es with
 | nil=>intro a P _ _ _ _;show wid P≤_;omega
 | cons e es ih=>
  intro a P hin hasc hlo ha
  obtain ⟨p1,p2⟩:=List.pairwise_cons.1 hasc
  have h1:=hin e (List.mem_cons_self ..)
  have h2:=hlo e (List.mem_cons_self ..)
  have h3:=ih e (P++stoS (wid P) ((bs.drop a).take (e-a)) (decide (e=bs.length))) (fun x hx=>hin x (List.mem_cons_of_mem _ hx)) p2 (fun x hx=>Nat.le_of_lt (p1 x hx)) h1
  have h4:=stoS_wid (wid P) ((bs.drop a).take (e-a)) (decide (e=bs.length))
  rw [List.length_take,List.length_drop] at h4
  rw [stU,List.length_cons]
  rw [wid_app] at h3
  omega
section
variable {bs ends:List Nat}
theorem packs_stU (hb:Bs bs) (hl:bs.length≤5000) (hE:Ends bs.length ends) (hel:ends.length≤101) {j:Nat} (hj:j≤ends.length):Packs bs (byts (stU bs ends 0 [])) j:=by
 obtain ⟨f1,f2⟩:=stU_ok hb (by omega) ends 0 0 [] hE.asc hE.last (fun e he=>⟨Nat.zero_le _,(hE.pos e he).1⟩) (by rw [List.take_zero];exact NL.nil _) (fun c hc=>by cases hc)
 have hh:=byts_holds f1
 obtain ⟨st,k,h1,h2⟩:=f2 _ hh
 have hw:=stU_wid bs ends 0 [] (fun e he=>(hE.pos e he).1) hE.asc (fun e _=>Nat.zero_le _) (Nat.zero_le _)
 refine ⟨hh.1,?_,_,st,k,h2,(byts_len _).symm,by omega⟩
 rw [byts_len]
 simp only [wid] at hw
 omega
theorem packs_pkS (hb:Bs bs) (hl:bs.length≤5000) (hE:Ends bs.length ends) (hel:ends.length≤101) {R:List Tok} (hA:AP bs ends R) (hle:(byts (pkS bs ends ⟨R,0,[]⟩).P).length≤sszF ends 0) {j:Nat} (hj:j≤ends.length):Packs bs (byts (pkS bs ends ⟨R,0,[]⟩).P) j:=by
 obtain ⟨k,h1,h2⟩:=packed_ok hb (by omega) hE hA
 have h3:=sszF_le (n:=bs.length) (by omega) ends 0 (Nat.zero_le _) (fun e he=>(hE.pos e he).1) hE.asc (fun e _=>Nat.zero_le _)
 exact packs_fin h2 (by omega) (by omega)
end
theorem lv_clamp (bs:List Nat) (level:Int):V.findF bs ((lv level:Nat):Int)=V.findF bs level:=by
 rw [←V.findF_clamp bs level]
 congr 1
 unfold lv
 omega
theorem ends_nil (n:Nat):endsF n []=[n]:=by
 have h:=cuts_len n []
 unfold endsF
 rw [List.eq_nil_of_length_eq_zero (Nat.le_zero.1 h)]
 rfl
def BlkTo (bs:List Nat) (level:Int) (zs:List Int) (w:World) (e:Ending) (w':World):Prop:=∃ out,Kept w out e w'∧Packs bs out (fr bs.length zs+1)∧(zs=[]→out=dflF bs (lv level))
set_option maxHeartbeats 3200000 in
theorem blocks_any {w:World} {v:Value} {bs:List Nat} (level:Int) {ao:Option Addr} {c:Nat} {zs:List Int} (hTM:V.TabM w) (hTD:TabD w) (hs:BySl w v bs) (hb:Bs bs) (hl:bs.length≤5000) (hi:IS w ao zs) (hz:zs.length≤100) :
  Calls Tryz.prog 19 #[v,.int .i64 level,.slice ao zs.length c] w (BlkTo bs level zs w):=by
 obtain ⟨vo,vc,rfl⟩:=V.by_shape hs
 have HTM:=Lib.hid hTM
 have HTD:=Lib.hid hTD
 have HS:=Lib.hid hs
 have HB:=Lib.hid hb
 have HL:=Lib.hid hl
 have HZ:=Lib.hid hz
 have HEN:=Lib.hid (ends_of (zc:=c) (n:=bs.length) hi (by omega) (by omega))
 obtain ⟨n,hn⟩:∃ n,n=bs.length:=⟨_,rfl⟩
 obtain ⟨zl,hzl⟩:∃ n,n=zs.length:=⟨_,rfl⟩
 have HN:=Lib.hid hn
 rw [←hn] at hl HEN ⊢
 rw [←hzl] at HEN ⊢
 clear hTM hTD hs hb hi hz hn hzl
 go_enter Tryz.func19,Tryz.ntmps19
 go_wp2_with fail
 refine HEN.out.mono ?_
 rintro e w1 ⟨g,ec,rfl,hI,hec,hbl⟩
 obtain ⟨ends,hends⟩:∃ ends,ends=endsF n zs:=⟨_,rfl⟩
 rw [←hends] at hI hec ⊢
 have HE:Hid (Ends bs.length ends∧fr n zs+1≤ends.length∧ends.length≤101∧(zs=[]→ends=[n])):=Lib.hid (by
  have h1:=ends_ok n zs
  have h2:=ends_len n zs
  rw [←hends] at h1 h2
  have:=HZ.out
  exact ⟨by rw [←HN.out];exact h1,h2.1,by omega,fun h=>by rw [hends,h,ends_nil]⟩)
 have I1:=Lib.hid hI
 have EC:=Lib.hid hec
 have B1:=Lib.hid hbl
 have TM1:=Lib.hid (V.TabM.keep HTM.out hbl)
 have TD1:=Lib.hid (HTD.out.grow hbl)
 have S1:=Lib.hid (HS.out.grow hbl)
 have HST:=Lib.hid (fun (W:World) (hW:Below w1.heap.size w1 W)=>stoU_any (ce:=ec) (S1.out.grow hW) HB.out HL.out (IS.below I1.out hW) HE.out.1 (by have:=HE.out.2.2.1;omega))
 have HSZ:=Lib.hid (fun (W:World) (hW:Below w1.heap.size w1 W)=>ssize_any (ce:=ec) (IS.below I1.out hW) (fun i hi=>by
  have h1:=ends_at HE.out.1 hi
  have:=HL.out
  refine ⟨?_,by omega⟩
  unfold atF
  split
  ·exact Nat.zero_le _
  ·have:=(ends_at HE.out.1 (show i-1<ends.length by omega)).2.1 (by omega)
   rw [show i-1+1=i by omega] at this
   omega) (by have:=HE.out.2.2.1;omega))
 have HFS:Hid (zs=[]→∀ k:Nat,(k=0∨¬(byts (pkS bs [bs.length] ⟨V.findF bs (k:Int),0,[]⟩).P).length≤bnd bs.length)→byts (stU bs ends 0 [])=dflF bs k):=Lib.hid fun h k hk=>by
  rw [HE.out.2.2.2 h,HN.out]
  have e1:byts (stU bs [bs.length] 0 [])=stoF bs:=by
   rw [←stoF_byts HB.out]
   simp [stU,wid]
  rw [e1]
  unfold dflF
  rcases hk with hk | hk
  ·rw [if_pos hk]
  ·split
   ·rfl
   ·first
     | rfl
     | rw [if_neg hk]
 rw [←HN.out] at S1 HST
 clear hI hec hbl hends HEN
 by_cases hlev:0<level
 ·have HP:=Lib.hid (packed_any (ce:=ec) level hlev TM1.out TD1.out S1.out HB.out HL.out I1.out HE.out.1 EC.out (by have:=HE.out.2.2.1;omega))
  have HLV:=Lib.hid hlev
  go_wp2_with fail
  with_reducible refine HP.out.mono ?_
  rintro e w2 ⟨R,hA,hRF,ao2,c2,rfl,hown,hb2⟩
  obtain ⟨o1,ho1⟩:∃ o,o=byts (pkS bs ends ⟨R,0,[]⟩).P:=⟨_,rfl⟩
  rw [←ho1] at hown ⊢
  have HA:=Lib.hid (And.intro hA (And.intro hRF ho1))
  have HOW:=Lib.hid hown
  have B2:=Lib.hid hb2
  have HSZ2:=Lib.hid (HSZ.out w2 hb2)
  obtain ⟨sz,hsz⟩:∃ s,s=sszF ends 0:=⟨_,rfl⟩
  rw [←hsz] at HSZ2
  have HSE:=Lib.hid hsz
  obtain ⟨l1,hl1⟩:∃ l,l=o1.length:=⟨_,rfl⟩
  have HL1:=Lib.hid hl1
  rw [←hl1]
  clear hA hRF hown hb2 ho1 hsz hl1 HP HSZ hlev
  go_wp2_with fail
  with_reducible refine HSZ2.out.mono ?_
  rintro e w3 ⟨rfl,hb3⟩
  have B3:=Lib.hid hb3
  have B13:=Lib.hid (B2.out.on hb3)
  clear hb3 HSZ2
  have HD:Hid (zs=[]→(l1≤sz→o1=dflF bs (lv level))∧(¬l1≤sz→byts (stU bs ends 0 [])=dflF bs (lv level))):=Lib.hid fun h=>by
   have he:=HE.out.2.2.2 h
   have hr:=HA.out.2.1 (by rw [he];rfl)
   have ho:=HA.out.2.2
   rw [hr,he,HN.out] at ho
   have hsz:sz=bnd bs.length:=by rw [HSE.out,he,HN.out];rfl
   have hlv:lv level≠0:=by have:=lv_pos (z:=level) (by have:=HLV.out;omega);omega
   have hfc:=lv_clamp bs level
   refine ⟨fun hle=>?_,fun hle=>HFS.out h _ (.inr ?_)⟩
   ·unfold dflF
    rw [if_neg hlv,hfc,←ho,if_pos (by rw [←HL1.out,←hsz];exact hle)]
   ·rw [hfc,←ho,←HL1.out,←hsz];exact hle
  by_cases hle:l1≤sz
  ·have hle':(l1:Int)≤sz:=by omega
   have HLE:=Lib.hid hle
   clear hle
   go_wp2
   go_ret
   have hk:=ownsRow_below HOW.out B3.out
   refine ⟨o1,?_,?_,fun h=>(HD.out h).1 HLE.out⟩
   ·rw [HL1.out]
    exact ⟨ao2,c2,rfl,own_base hk B1.out.size,B1.out.on B13.out⟩
   ·rw [HA.out.2.2]
    refine packs_pkS HB.out HL.out HE.out.1 HE.out.2.2.1 HA.out.1 (by rw [←HA.out.2.2,←HL1.out,←HSE.out];exact HLE.out) ?_
    rw [←HN.out];exact HE.out.2.1
  ·have hle':¬((l1:Int)≤sz):=by omega
   have HLE:=Lib.hid hle
   have HST3:=Lib.hid (HST.out w3 B13.out)
   clear hle HST
   go_wp2_with fail
   with_reducible refine HST3.out.mono ?_
   intro e w4 hk
   obtain ⟨ao4,c4,rfl,hown4,hb4⟩:=hk
   have HO4:=Lib.hid (And.intro hown4 hb4)
   clear hown4 hb4 HST3
   go_wp2
   go_ret
   refine ⟨_,⟨ao4,c4,rfl,own_base HO4.out.1 (B1.out.on B13.out).size,(B1.out.on B13.out).on HO4.out.2⟩,?_,fun h=>(HD.out h).2 HLE.out⟩
   exact packs_stU HB.out HL.out HE.out.1 HE.out.2.2.1 (by rw [←HN.out];exact HE.out.2.1)
 ·have hlev':level≤0:=by omega
  have HLV:=Lib.hid hlev'
  have HST3:=Lib.hid (HST.out w1 (Below.refl _ _))
  clear HST HSZ
  go_wp2_with fail
  with_reducible refine HST3.out.mono ?_
  intro e w4 hk
  obtain ⟨ao4,c4,rfl,hown4,hb4⟩:=hk
  have HO4:=Lib.hid (And.intro hown4 hb4)
  clear hown4 hb4 HST3
  go_wp2
  go_ret
  refine ⟨_,⟨ao4,c4,rfl,own_base HO4.out.1 B1.out.size,B1.out.on HO4.out.2⟩,?_,fun h=>HFS.out h _ (.inl (lv_zero HLV.out))⟩
  exact packs_stU HB.out HL.out HE.out.1 HE.out.2.2.1 (by rw [←HN.out];exact HE.out.2.1)
theorem deflate_any {w:World} {v:Value} {bs:List Nat} (level:Int) (hTM:V.TabM w) (hTD:TabD w) (hs:BySl w v bs) (hb:Bs bs) (hl:bs.length≤5000) :
  Calls Tryz.prog 11 #[v,.int .i64 level] w (Kept w (dflF bs (lv level))):=by
 obtain ⟨vo,vc,rfl⟩:=V.by_shape hs
 have HBL:=Lib.hid (blocks_any (ao:=none) (c:=0) (zs:=[]) level hTM hTD hs hb hl (.inl rfl) (by decide))
 clear hTM hTD hs hb hl
 go_enter Tryz.func11,Tryz.ntmps11
 go_wp2_with fail
 refine HBL.out.mono ?_
 rintro e w1 ⟨out,⟨ao,c,rfl,hown,hb⟩,_,ho⟩
 have HO:=Lib.hid (And.intro hown (And.intro hb (ho rfl)))
 clear hown hb ho HBL
 go_wp2
 go_ret
 rw [←HO.out.2.2]
 exact ⟨ao,c,rfl,HO.out.1,HO.out.2.1⟩
end
section
open Go.ChangeShapes Go.WideShapes Go.ChangeAt Go.RowKit
def Tb8 (w:World):Prop:=Tab w∧V.TabM w∧TabD w
theorem tb8_of {W:World} (h:laidMetH Tryz.prog laidL W):Tb8 W:=⟨tab_of h,tabM_of h,tabD_of h⟩
theorem tab_grow {W W':World} (h:Tab W) (hb:Below W.heap.size W W'):Tab W':=fun j hj=>(hb.cell (World.block_lt_of_cell? W _ (h j hj))).trans (h j hj)
theorem prg8:Prg8 Tb8 dflF stoF where
 keep h hb:=⟨tab_grow h.1 hb,V.TabM.keep h.2.1 hb,h.2.2.grow hb⟩
 tab h:=h.1
 defl level hT hs hb hl:=deflate_any level hT.2.1 hT.2.2 hs hb hl
 blks level _ _ _ hT hs hb hl hi hz:=(blocks_any level hT.2.1 hT.2.2 hs hb hl hi hz).mono fun _ _ ⟨out,h1,h2,_⟩=>⟨out,h1,h2⟩
 sto _ hs hb hl:=Stored_any hs hb hl
 bound:=bound_ok
 none:=bound_none
 back hb hl _:=dfl_back hb hl (findF_ap _ hb (by omega))
 zero _ _:=dfl_zero _
 few hc h1 h2 h3 h4:=dfl_few hc h1 h2 h3 h4
theorem alive8:Alive8 Tb8:=alive8_any prg8 (by decide)
section
variable {H:Type} {enc:TypeId × Value→H} {w:World} {base:Nat} {spare:Nat→Bool} {held:Bool} {fuel:Nat}
theorem is_open {a:Option Addr} {len cap:Nat} {y:DataW H × List MemPlace}
  (h:DataW.trod enc Tryz.prog w base spare held fuel 40 [.slice a len cap]=some y):∃ zs:List Int,zs.length=len∧IS w a zs∧zs.length≤maxLen∧(a=none→cap=0)∧len≤cap:=by
 rcases open_ints Tryz.underlying40 Tryz.underlying3 (by kernel_rfl) h with ⟨hcs,_⟩ | ⟨ad,l,c,zs,hcs,_,hl,hm,hz,_,hcell,hwf⟩
 ·simp at hcs
  obtain ⟨rfl,rfl,rfl⟩:=hcs
  exact ⟨[],rfl,.inl rfl,by simp [maxLen],fun _=>rfl,Nat.le_refl _⟩
 ·simp at hcs
  obtain ⟨rfl,rfl,rfl⟩:=hcs
  have hzl:len≤zs.length:=by rw [hz];split <;> omega
  have hlen:(zs.take len).length=len:=by rw [List.length_take];omega
  refine ⟨zs.take len,hlen,?_,by rw [hlen];omega,(fun e=>by cases e),hl⟩
  by_cases h0:len=0
  ·left
   exact List.eq_nil_of_length_eq_zero (by rw [hlen,h0])
  ·right
   have hc0:=hcell 0 (by omega)
   obtain ⟨b,off,spot⟩:=ad
   have hspot:spot=none:=by simpa [Addr.add] using World.cell?_spot hc0
   subst hspot
   refine ⟨b,off,rfl,fun j hj=>?_⟩
   rw [hlen] at hj
   have hcj:=hcell j (by omega)
   rw [Addr.add_lit] at hcj
   rw [hcj]
   simp [List.getD,hj]
end
end
end Go.Proofs.YtacpfpghokcdlaaGreatDoor
