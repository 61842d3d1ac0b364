/- Part 10. -/
import Derived.Test.YthbbpooobaahiaaGreatDoorXB9
namespace Go.Proofs.YthbbpooobaahiaaGreatDoor.Z
set_option maxRecDepth 100000
section
open Go.RowKit
theorem wrong_any (g n c:Nat) (ao:Option Addr) (s x:Int) (w:World) (hg:w.cell? ⟨g,0,none⟩=some (.slice ao n c)) (hn:n≤320) :
  Calls Tryz.prog 192 #[.agg #[.int .i64 s,.int .i64 x],.pointer (some ⟨g,0,none⟩)] w (Wrote w (decide (Wi s x n))):=by
 have hs:=sp_lim s
 have e1:IntKind.i64.wrap ((spm s:Int)-spl s)=((spm s-spl s:Nat):Int):=by rw [IntKind.wrap_i64];omega
 have e3:IntKind.i64.wrap ((320:Int)-n)=320-n:=by rw [IntKind.wrap_i64];omega
 have e5:((spm s-spl s:Nat):Int)=(spm s:Int)-spl s:=by omega
 by_cases h1:Bad 0 18 s
 ·rw [decide_eq_true (show Wi s x n from .inl h1)]
  exact wr_a g n c (spl s) (spm s) _ ao s x _ _ w hg rfl rfl e1 rfl e3 h1
 ·by_cases h2:Bad 0 ((spm s:Int)-spl s) x
  ·rw [decide_eq_true (show Wi s x n from .inr (.inl h2))]
   exact wr_b g n c (spl s) (spm s) _ ao s x _ _ w hg rfl rfl e1 rfl e3 h1 (by rw [e5];exact h2)
  ·have e2:IntKind.i64.wrap ((spl s:Int)+x)=spl s+x:=by unfold Bad at h2;rw [IntKind.wrap_i64];omega
   have h2':¬Bad 0 ((spm s-spl s:Nat):Int) x:=by rw [e5];exact h2
   by_cases h3:s=16
   ·have h3':(s == 16)=true:=by simp [h3]
    by_cases h4:n=0
    ·rw [decide_eq_true (show Wi s x n from .inr (.inr (.inl ⟨h3,h4⟩)))]
     exact wr_c g n c (spl s) (spm s) _ ao s x _ _ w hg rfl rfl e1 e2 e3 h1 h2' h3' (by simp [h4])
    ·have h4':((n:Int) == 0)=false:=by simp [h4]
     by_cases h5:(320-n:Int)<spl s+x
     ·rw [decide_eq_true (show Wi s x n from .inr (.inr (.inr h5)))]
      exact wr_d g n c (spl s) (spm s) _ ao s x _ _ w hg rfl rfl e1 e2 e3 h1 h2' h3' h4' (decide_eq_true h5)
     ·rw [decide_eq_false (show ¬Wi s x n from fun h=>by rcases h with h | h | h | h;exact h1 h;exact h2 h;exact h4 h.2;exact h5 h)]
      exact wr_e g n c (spl s) (spm s) _ ao s x _ _ w hg rfl rfl e1 e2 e3 h1 h2' h3' h4' (decide_eq_false h5)
   ·have h3':(s == 16)=false:=by simp [h3]
    by_cases h5:(320-n:Int)<spl s+x
    ·rw [decide_eq_true (show Wi s x n from .inr (.inr (.inr h5)))]
     exact wr_f g n c (spl s) (spm s) _ ao s x _ _ w hg rfl rfl e1 e2 e3 h1 h2' h3' (decide_eq_true h5)
    ·rw [decide_eq_false (show ¬Wi s x n from fun h=>by rcases h with h | h | h | h;exact h1 h;exact h2 h;exact h3 h.1;exact h5 h)]
     exact wr_g g n c (spl s) (spm s) _ ao s x _ _ w hg rfl rfl e1 e2 e3 h1 h2' h3' (decide_eq_false h5)
theorem cells_1 (w:World) (e:TypeId) (u:Value):CellsAt (w.alloc (.cells #[u] e)) (.slice (some ⟨w.heap.size,0,none⟩) 1 1) 1 [u]:=by
 refine .inr ⟨_,1,rfl,fun j x hx=>?_⟩
 rw [Addr.add_lit,Nat.zero_add,(Blk.made w e _).cell]
 have:j<1:=(List.getElem?_eq_some_iff.1 hx).1
 obtain rfl:j=0:=by omega
 simpa using hx
structure Un (w:World) (cx:Nat) (ts:List Int) (ao:Option Addr) (c:Nat) (wr:World):Prop where
 box:Blk wr cx 88 #[.slice ao ts.length c]
 below:Below w.heap.size w wr
 own:wr.ownsRow (cx+1) 3 1 (.slice ao ts.length c) ts.length (iv ts)
 lo:w.heap.size≤cx
 hi:cx+1≤wr.heap.size
theorem Un.cell {w wr:World} {cx c:Nat} {ts:List Int} {ao:Option Addr} (h:Un w cx ts ao c wr):wr.cell? ⟨cx,0,none⟩=some (.slice ao ts.length c):=h.box.cell 0
theorem Un.grow {w wr w':World} {cx c:Nat} {ts:List Int} {ao:Option Addr} (h:Un w cx ts ao c wr) (hb:Below wr.heap.size wr w'):Un w cx ts ao c w':=
 ⟨h.box.below hb,h.below.trans (hb.mono h.below.size),ownsRow_below h.own hb,h.lo,Nat.le_trans h.hi hb.size⟩
theorem Un.is {w wr:World} {cx c:Nat} {ts:List Int} {ao:Option Addr} (h:Un w cx ts ao c wr):IS wr ao ts:=own_is h.own rfl
theorem Un.alloc {w wr:World} {cx c:Nat} {ts:List Int} {ao:Option Addr} (h:Un w cx ts ao c wr) (o:Obj):Un w cx ts ao c (wr.alloc o):=h.grow ((Below.refl _ _).alloc (Nat.le_refl _) _)
theorem Un.mid {w wr w3:World} {cx c n:Nat} {ts:List Int} {xs:List Value} {ao:Option Addr} {v:Value} {o:Obj} (h:Un w cx ts ao c wr) (hA:Apg (wr.alloc o) (cx+1) 3 1 (.slice ao ts.length c) n xs v w3) :
  Blk w3 cx 88 #[.slice ao ts.length c]∧Below w.heap.size w w3∧cx+1≤w3.heap.size:=by
 have h1:=(h.alloc o)
 have hBe:=hA.below h1.own h1.hi
 exact ⟨h1.box.low hBe (Nat.lt_succ_self _),h1.below.trans (hBe.mono (Nat.le_succ_of_le h1.lo)),Nat.le_trans h1.hi hBe.size⟩
theorem Un.put {w wr w3:World} {cx c:Nat} {ts:List Int} {ao ao2:Option Addr} {c2:Nat} {x:Int} {o:Obj} (h:Un w cx ts ao c wr)
  (hA:Apg (wr.alloc o) (cx+1) 3 1 (.slice ao ts.length c) (ts.length+1) (iv ts++[.int .i64 x]) (.slice ao2 (ts.length+1:Nat) c2) w3):Un w cx (ts++[x]) ao2 c2 (w3.setCell ⟨cx,0,none⟩ (.slice ao2 (ts.length+1:Nat) c2)):=by
 have e:iv ts++[.int .i64 x]=iv (ts++[x]):=by simp [iv]
 rw [e] at hA
 obtain ⟨h1,h2,h3⟩:=h.mid hA
 have hl:(ts++[x]).length=ts.length+1:=by simp
 refine ⟨?_,?_,?_,h.lo,by simpa using h3⟩
 ·rw [hl];exact h1.setCell 0 _
 ·exact h2.setCell h.lo _
 ·rw [hl]
  refine ownsRow_touch hA.own ((Touch.refl (fun k=>k=cx) w3).setCell ⟨cx,0,none⟩ _ (.inl rfl)) fun k hk e=>?_
  have:=(hA.own.lt k hk).1
  omega
theorem un_step {r:List (Int × Int)} {k:Nat} (hk:k<r.length) (ts:List Int):un (r.drop k) ts=if Wi (itm r k).1 (itm r k).2 ts.length then none else un (r.drop (k+1)) (ts++List.replicate ((spl (itm r k).1:Int)+(itm r k).2).toNat (tv (itm r k).1 ts)):=by
 have e:r.drop k=itm r k::r.drop (k+1):=by
  rw [List.drop_eq_getElem_cons hk]
  simp [itm,List.getD,hk]
 rw [e]
 rfl
theorem un_end {r:List (Int × Int)} {ts:List Int}:un (r.drop r.length) ts=some ts:=by
 rw [List.drop_length,un]
def Unq (A:Option (List Int)) (w:World) (e:Ending) (w':World):Prop:=Below w.heap.size w w'∧
 (A=none→e = .returned (.tuple #[.slice none 0 0,.bool false]))∧∀ ts,A=some ts→∃ ao c,e = .returned (.tuple #[.slice ao ts.length c,.bool true])∧IS w' ao ts∧ts.length≤c
theorem own_cap {w:World} {base e size n c:Nat} {ao:Option Addr} {xs:List Value} (h:w.ownsRow base e size (.slice ao n c) n xs):n≤c:=by
 rcases h.2 with ⟨e1,h0⟩ | ⟨g,cap,cur,e1,_,_,hnc,_⟩
 ·omega
 ·simp only [Value.slice.injEq] at e1
  omega
set_option maxHeartbeats 4000000 in
theorem unpack_any (ao:Option Addr) (c:Nat) (r:List (Int × Int)) (w:World) (h:TS w ao r) (hl:r.length≤1000) :
  Calls Tryz.prog 184 #[.slice ao r.length c] w (Unq (un r []) w):=by
 have HI:Hid (∀ W,Below w.heap.size w W→TS W ao r):=Lib.hid fun W hW=>h.on hW
 clear h
 obtain ⟨A,hA⟩:∃ A,A=un r []:=⟨_,rfl⟩
 rw [←hA]
 have HA0:=Lib.hid hA
 clear hA
 go_enter Tryz.func184,Tryz.ntmps184
 go_wp2
 obtain ⟨cx,hcx⟩:∃ cx,cx=w.heap.size:=⟨_,rfl⟩
 have H0:Hid (Un w cx [] none 0 (w.alloc (.cells #[.slice none 0 0] 88))):=Lib.hid ⟨by rw [hcx];exact Blk.made _ _ _,(Below.refl _ w).alloc (Nat.le_refl _) _,World.ownsRow_nil _ _ _ _,by omega,by rw [hcx];simp⟩
 rw [←hcx]
 clear hcx
 go_loopw [14] (fun iv' wr=>∃ (k:Nat) (ts:List Int) (bo:Option Addr) (cu:Nat),k≤r.length∧iv' = .int .i64 k∧ts.length≤320∧un (r.drop k) ts=A∧Un w cx ts bo cu wr) (fun iv' _=>r.length-(intOf iv').toNat)
 case atStart=>exact ⟨0,[],none,0,Nat.zero_le _,rfl,by simp,HA0.out.symm,H0.out⟩
 case round=>
  obtain ⟨k,ts,bo,cu,hk,rfl,htl,hun,hU⟩:=hrel
  have HUN:=Lib.hid hun
  have HU:=Lib.hid hU
  clear hun hU H0
  by_cases hlt:k<r.length
  ·have hkk:(k:Int)<r.length:=by omega
   obtain ⟨b1,o1,rfl,q1,q2⟩:=(HI.out _ HU.out.below).at hlt
   obtain ⟨s,hs⟩:∃ s,s=(itm r k).1:=⟨_,rfl⟩
   obtain ⟨x,hx⟩:∃ x,x=(itm r k).2:=⟨_,rfl⟩
   have HSX:=Lib.hid (And.intro hs hx)
   rw [←hs] at q1
   rw [←hx] at q2
   clear hs hx
   by_cases hw:Wi s x ts.length
   ·have HW:=Lib.hid (decide_eq_true hw)
    clear hw
    go_wp2_with (go_at_call 192;(refine (wrong_any cx ts.length cu bo s x _ (HU.out.alloc _).cell htl).mono ?_);rintro e w1 ⟨rfl,hb1⟩;have HU1:=Lib.hid ((HU.out.alloc _).grow hb1);rw [HW.out];clear hb1)
    go_ret2
    refine ⟨HU1.out.below,fun _=>rfl,fun ts' h=>?_⟩
    exfalso
    have h1:=HUN.out
    have h2:=HSX.out
    rw [h,un_step hlt,←h2.1,←h2.2,if_pos (of_decide_eq_true HW.out)] at h1
    cases h1
   ·have HW:=Lib.hid (decide_eq_false hw)
    have HWN:=Lib.hid hw
    have hsl:=sp_lim s
    obtain ⟨l,hl⟩:∃ l,l=spl s:=⟨_,rfl⟩
    obtain ⟨m,hm⟩:∃ m,m=spm s:=⟨_,rfl⟩
    have HSP:=Lib.hid (And.intro hl.symm hm.symm)
    obtain ⟨n,hn⟩:∃ n,n=(l+x).toNat:=⟨_,rfl⟩
    have hnb:ts.length+n≤320:=by unfold Wi Bad at hw;omega
    have e1:IntKind.i64.wrap ((l:Int)+x)=n:=by unfold Wi Bad at hw;rw [IntKind.wrap_i64];omega
    have HN:=Lib.hid hn
    obtain ⟨t,ht⟩:∃ t,t=tv s ts:=⟨_,rfl⟩
    have HTV:=Lib.hid ht.symm
    clear ht
    clear hsl hl hm hn hw
    go_wp2_with (first
     | (go_at_call 192;(refine (wrong_any cx ts.length cu bo s x _ (HU.out.alloc _).cell htl).mono ?_);rintro e w1 ⟨rfl,hb1⟩;have HU1:=Lib.hid ((HU.out.alloc _).grow hb1);have HX1:=Lib.hid ((Blk.made wr 252 #[.int .i64 s,.int .i64 x]).below hb1);rw [HW.out];clear hb1;have p1:=HX1.out.cell 0;have p2:=HX1.out.cell 1;have p3:=HU1.out.cell)
     | (go_at_call 193;refine (span_any _ _).mono ?_;rintro e w5 ⟨rfl,rfl⟩;rw [HSP.out.1,HSP.out.2])
     | (go_at_call 195;refine (told_any bo cu s ts _ HU1.out.is (fun e h0=>HWN.out (.inr (.inr (.inl ⟨e,by rw [h0];rfl⟩)))) (by omega)).mono ?_;rintro e w6 ⟨rfl,rfl⟩;rw [HTV.out]))
    clear p1 p2 p3 e1
    have H1:Hid (Un w cx (ts++List.replicate 0 t) bo cu w6):=Lib.hid (by simpa using HU1.out)
    go_loopw [35] (fun jv wr2=>∃ (j:Nat) (bo2:Option Addr) (cu2:Nat),jv = .int .i64 j∧j≤n∧Un w cx (ts++List.replicate j t) bo2 cu2 wr2) (fun jv _=>n-(intOf jv).toNat)
    case atStart=>exact ⟨0,bo,cu,rfl,Nat.zero_le _,H1.out⟩
    case round=>
     obtain ⟨j,bo2,cu2,rfl,hj,hU2⟩:=hrel
     have HU2:=Lib.hid hU2
     clear hU2 H1 HU1 HX1 HU q1 q2
     obtain ⟨ts2,ht2⟩:∃ ts2,ts2=ts++List.replicate j t:=⟨_,rfl⟩
     have HT2:=Lib.hid ht2
     have ht2l:ts2.length≤320:=by rw [ht2];simp;omega
     rw [←ht2] at HU2
     clear ht2
     by_cases hlj:j<n
     ·have hlj':(j:Int)<n:=by omega
      have p1:=HU2.out.cell
      go_wp2_with (refine wpList_append_g at22 rfl (.tmp 37) (.tmp 39) rfl (cx+1) (.slice bo2 ts2.length cu2) (.slice (some ⟨wr.heap.size,0,none⟩) 1 1) ts2.length 1 (iv ts2) [.int .i64 t] rfl rfl (World.ownsRow.alloc (w:=wr) HU2.out.own _) (cells_1 wr 3 _) rfl (by simp [Value.oneCell']) (by have:=HU2.out.hi;simp;omega) (by omega) (by omega) ?_;intro ao2 cc2 w3 hA;have HA:=Lib.hid hA;clear hA;have p2:=(HU2.out.mid HA.out).1.cell 0;have p3:=(HU2.out.mid HA.out).1.free 0)
      go_roundw
      case rel=>
       refine ⟨j+1,ao2,cc2,by go_num,by omega,?_⟩
       have h1:=HU2.out.put HA.out
       rw [HT2.out,List.append_assoc,←List.replicate_succ'] at h1
       rw [HT2.out]
       exact h1
      case measure=>simp [intOf];omega
     ·have hj':j=n:=by omega
      have HJ:=Lib.hid hj'
      subst hj'
      have hjj:decide ((j:Int)<j)=false:=decide_eq_false (by omega)
      go_wp2
      go_roundw
      case rel=>
       refine ⟨k+1,ts2,bo2,cu2,by omega,by go_num,ht2l,?_,HU2.out⟩
       have h1:=HUN.out
       have h2:=HSX.out
       rw [un_step hlt,←h2.1,←h2.2,if_neg HWN.out,HTV.out,HSP.out.1,←HN.out,←HT2.out] at h1
       exact h1
      case measure=>simp [intOf];omega
  ·have hk':k=r.length:=by omega
   subst hk'
   have q1:=HU.out.cell
   go_wp2
   go_ret2
   refine ⟨HU.out.below,fun h=>?_,fun ts' h=>?_⟩
   ·have h1:=HUN.out
    rw [h,un_end] at h1
    cases h1
   ·have h1:=HUN.out
    rw [h,un_end] at h1
    cases h1
    exact ⟨bo,cu,rfl,HU.out.is,own_cap HU.out.own⟩
end
end Go.Proofs.YthbbpooobaahiaaGreatDoor.Z
namespace Go.Proofs.YthbbpooobaahiaaGreatDoor
set_option maxRecDepth 100000
section
open Go.RowKit
section
variable {B K p pb:Nat} {g:Option Nat} {bs:List Nat} {lim:Nat} {w:World} {ov:Value} {s:Sta}
abbrev iv2 (x:Nat × Nat):Value := .agg #[.int .i64 (x.1:Nat),.int .i64 (x.2:Nat)]
theorem item_end {w1 W:World} {ov1:Value} {s1:Sta} {r:Nat} {cs:Array Value} (h:RS B K p pb g bs lim W ov1 s1) (m:Mv p pb w ov W ov1) {t:TypeId} (hr:Blk W r t cs) (ht3:t=252∨((t=3∨t=203)∧K≤r)) (hrw:w.heap.size≤r) (ht:Touch (fun k=>k=r) W w1) :
  RS B K p pb g bs lim w1 ov1 s1∧Mv p pb w ov w1 ov1:=by
 have tne:t≠168∧t≠186∧t≠5∧(t=203→K≤r)∧t≠239∧t≠260∧(t=3→K≤r):=by
  rcases ht3 with rfl | ⟨rfl | rfl,hk⟩
  ·exact ⟨by decide,by decide,by decide,fun h=>absurd h (by decide),by decide,by decide,fun h=>absurd h (by decide)⟩
  ·exact ⟨by decide,by decide,by decide,fun _=>hk,by decide,by decide,fun _=>hk⟩
  ·exact ⟨by decide,by decide,by decide,fun _=>hk,by decide,by decide,fun _=>hk⟩
 obtain ⟨t1,t2,t3,t4,t5,t6,t7⟩:=tne
 have ne:∀ {k:Nat} {t':TypeId} {c:Array Value},W.heap[k]? = some (.cells c t' (0,0))→t≠t'→k≠r:=by
  rintro k t' c hk hne rfl
  rw [Blk,hk] at hr
  simp at hr
  exact hne hr.2.symm
 have bl:∀ {k:Nat} {t':TypeId} {c:Array Value},Blk W k t' c→t≠t'→Blk w1 k t' c:=fun hk hne=>hk.touch ht (ne hk hne)
 obtain ⟨fx,hb,hf⟩:=h.blk
 obtain ⟨sv,o1,o2,o3⟩:=h.ob.blk
 refine ⟨⟨⟨fx,bl hb t1,?_⟩,h.ob.touch ht ?_,ownsRow_touch h.own ht ?_,h.hp,h.row,h.len,h.lim_,h.in_,h.out,h.steps,h.blocks,h.bytes⟩,m.touch.trans' ht (fun i hi hlt=>by omega),m.row⟩
 ·rcases hf with hf | ⟨q,p1,p2,hv,a1,a2,a3,a4⟩
  ·exact .inl hf
  ·refine .inr ⟨q,p1,p2,hv,a1.touch ht ?_,a2.aside hr ht ⟨t5,t6,t7⟩,a3.aside hr ht ⟨t5,t6,t7⟩,a4⟩
   rintro rfl
   rw [Blk,a1] at hr
   simp at hr
   have:=t4 hr.2.symm
   omega
 ·rintro k (rfl | hk) e
  ·exact ne o1 t2 e
  ·rw [←o2] at hk
   obtain ⟨c,hc⟩:=own_ty o3 hk
   exact ne hc t3 e
 ·intro k hk e
  obtain ⟨c,hc⟩:=own_ty h.own hk
  exact ne hc t3 e
set_option maxHeartbeats 1600000 in
theorem item_any {pc:Nat} {own:List Nat} (h:RS B K p pb g bs lim w ov s) (hc:CodeAt w pc own) :
  Calls Tryz.prog 185 #[.pointer (some ⟨p,0,none⟩),.pointer (some ⟨pc,0,none⟩)] w (RTo B K p pb g bs lim w ov iv2 (itm bs own s)):=by
 obtain ⟨R,hR⟩:∃ R,R=itm bs own s:=⟨_,rfl⟩
 rw [←hR]
 unfold itm at hR
 have HR:=Lib.hid hR
 clear hR
 have hA:Below w.heap.size w (w.alloc (.cells #[.int .i64 0,.int .i64 0] 252)):=(Below.refl _ w).alloc (Nat.le_refl _) _
 obtain ⟨h1,m1⟩:=h.grow hA
 have hc1:=hc.below hA
 have HV:Hid (Blk (w.alloc (.cells #[.int .i64 0,.int .i64 0] 252)) w.heap.size 252 #[.int .i64 0,.int .i64 0]):=Lib.hid (Blk.made _ _ _)
 obtain ⟨r,hr⟩:∃ r,r=w.heap.size:=⟨_,rfl⟩
 have HRW:Hid (w.heap.size≤r):=Lib.hid (by omega)
 obtain ⟨W,hW⟩:∃ W,W=w.alloc (.cells #[.int .i64 0,.int .i64 0] 252):=⟨_,rfl⟩
 go_enter Tryz.func185,Tryz.ntmps185
 go_wp2_with fail
 rw [←hr,←hW] at HV
 rw [←hW] at h1 m1 hc1 ⊢
 rw [←hr]
 clear hr hW hA h hc
 refine (symbol_any h1 hc1).mono ?_
 rintro e w2 h2
 cases hr1:rdS bs own s with
 | bad er=>
  rw [hr1] at h2
  obtain ⟨rfl,ht⟩:=h2
  have hR:=HR.out
  rw [hr1] at hR
  have HR1:=Lib.hid hR
  clear hr1 hR h1 hc1
  go_wp2
  exact ⟨rfl,RTo.bad HR1.out (m1.bad ht)⟩
 | ok y s2=>
  rw [hr1] at h2
  obtain ⟨rfl,ov2,h2,m2⟩:=h2
  have hR:=HR.out
  rw [hr1,Res.bind_ok] at hR
  have HR1:=Lib.hid hR
  have hv2:=HV.out.safe m2.touch h1.safe (by decide)
  have M2:=Lib.hid (m1.trans m2)
  have hy:y<320:=by
   have hb:=rdS_is hr1
   have h1:=ln_lt (ls:=own) (s:=y) (by omega)
   have:=hc1.ok.len
   omega
  clear hr1 hR h1 hc1 HR HV m1 m2
  by_cases hy1:16≤y∧y≤18
  ·have hR:=HR1.out
   rw [if_pos hy1] at hR
   have HR2:=Lib.hid hR
   have hN:=fun n (hn:n≤16)=>number_any h2 n hn
   have hv0:=hv2.cell 0
   obtain ⟨k,hk⟩:∃ k,k=xb y:=⟨_,rfl⟩
   have hk16:k≤16:=by rw [hk];unfold xb;split <;> (try split) <;> (try split) <;> omega
   have hNk:=Lib.hid (hN k hk16)
   rw [←hk] at HR2
   have HV2:=Lib.hid hv2
   have fin:Hid (∀ e w3,RTo B K p pb g bs lim w2 ov2 nv (rdN bs k s2) e w3→(∃ er,e=pan er∧R = .bad er∧Touch (FT p pb ov) w w3)∨(∃ v s3,e = .returned (.int .i64 (v:Nat))∧R = .ok (y,v) s3∧∃ ov3,RS B K p pb g bs lim w3 ov3 s3∧Mv p pb w ov w3 ov3∧Blk w3 r 252 #[.int .i64 0,.int .i64 0])):=Lib.hid fun e w3 h3=>by
    cases hr3:rdN bs k s2 with
    | bad er=>
     rw [hr3] at h3
     obtain ⟨rfl,ht⟩:=h3
     exact .inl ⟨er,rfl,by have:=HR2.out;rw [hr3] at this;exact this,M2.out.bad ht⟩
    | ok v s3=>
     rw [hr3] at h3
     obtain ⟨rfl,ov3,h3,m3⟩:=h3
     exact .inr ⟨v,s3,rfl,by have:=HR2.out;rw [hr3] at this;exact this,ov3,h3,M2.out.trans m3,HV2.out.safe m3.touch h2.safe (by decide)⟩
   have hb:y=16∨y=17∨y=18:=by omega
   clear hR hN hy1 h2 hv2 hv0
   rcases hb with rfl | rfl | rfl
   ·have hk2:k=2:=hk
    subst hk2
    clear hk
    go_wp2_with fail
    refine hNk.out.mono ?_
    rintro e w3 h3
    rcases fin.out e w3 h3 with ⟨er,rfl,hRe,ht⟩ | ⟨v,s3,rfl,hRe,ov3,h4,m3,hv3⟩
    ·have HRE:=Lib.hid hRe
     clear hRe h3
     go_wp2
     exact ⟨rfl,RTo.bad HRE.out ht⟩
    ·have HRE:=Lib.hid hRe
     have H4:=Lib.hid h4
     have HV3:=Lib.hid hv3
     have v0:=hv3.cell 0
     have v1:=hv3.cell 1
     have f0:=hv3.free 0
     have f1:=hv3.free 1
     clear hRe h3 h4 hv3
     go_wp2
     refine bodyPost_ret (v := .agg #[.int .i64 16,.int .i64 (v:Nat)]) (by simp [results,Tryz.results185,go_sem,v0,v1]) rfl ?_
     obtain ⟨f1,f2⟩:=item_end H4.out m3 HV3.out (.inl rfl) HRW.out (((Touch.refl (fun k=>k=r) w3).setCell ⟨r,0,none⟩ (.int .i64 16) (.inl rfl)).setCell ⟨r,1,none⟩ (.int .i64 (v:Nat)) (.inl rfl))
     exact RTo.ok HRE.out f1 f2
   ·have hk2:k=3:=hk
    subst hk2
    clear hk
    go_wp2_with fail
    refine hNk.out.mono ?_
    rintro e w3 h3
    rcases fin.out e w3 h3 with ⟨er,rfl,hRe,ht⟩ | ⟨v,s3,rfl,hRe,ov3,h4,m3,hv3⟩
    ·have HRE:=Lib.hid hRe
     clear hRe h3
     go_wp2
     exact ⟨rfl,RTo.bad HRE.out ht⟩
    ·have HRE:=Lib.hid hRe
     have H4:=Lib.hid h4
     have HV3:=Lib.hid hv3
     have v0:=hv3.cell 0
     have v1:=hv3.cell 1
     have f0:=hv3.free 0
     have f1:=hv3.free 1
     clear hRe h3 h4 hv3
     go_wp2
     refine bodyPost_ret (v := .agg #[.int .i64 17,.int .i64 (v:Nat)]) (by simp [results,Tryz.results185,go_sem,v0,v1]) rfl ?_
     obtain ⟨f1,f2⟩:=item_end H4.out m3 HV3.out (.inl rfl) HRW.out (((Touch.refl (fun k=>k=r) w3).setCell ⟨r,0,none⟩ (.int .i64 17) (.inl rfl)).setCell ⟨r,1,none⟩ (.int .i64 (v:Nat)) (.inl rfl))
     exact RTo.ok HRE.out f1 f2
   ·have hk2:k=7:=hk
    subst hk2
    clear hk
    go_wp2_with fail
    refine hNk.out.mono ?_
    rintro e w3 h3
    rcases fin.out e w3 h3 with ⟨er,rfl,hRe,ht⟩ | ⟨v,s3,rfl,hRe,ov3,h4,m3,hv3⟩
    ·have HRE:=Lib.hid hRe
     clear hRe h3
     go_wp2
     exact ⟨rfl,RTo.bad HRE.out ht⟩
    ·have HRE:=Lib.hid hRe
     have H4:=Lib.hid h4
     have HV3:=Lib.hid hv3
     have v0:=hv3.cell 0
     have v1:=hv3.cell 1
     have f0:=hv3.free 0
     have f1:=hv3.free 1
     clear hRe h3 h4 hv3
     go_wp2
     refine bodyPost_ret (v := .agg #[.int .i64 18,.int .i64 (v:Nat)]) (by simp [results,Tryz.results185,go_sem,v0,v1]) rfl ?_
     obtain ⟨f1,f2⟩:=item_end H4.out m3 HV3.out (.inl rfl) HRW.out (((Touch.refl (fun k=>k=r) w3).setCell ⟨r,0,none⟩ (.int .i64 18) (.inl rfl)).setCell ⟨r,1,none⟩ (.int .i64 (v:Nat)) (.inl rfl))
     exact RTo.ok HRE.out f1 f2
  ·have hR:=HR1.out
   rw [if_neg hy1] at hR
   have HR2:=Lib.hid hR
   have d1:((y:Int) == 16)=false:=by simp;omega
   have d2:((y:Int) == 17)=false:=by simp;omega
   have d3:((y:Int) == 18)=false:=by simp;omega
   have H2:=Lib.hid h2
   have HV2:=Lib.hid hv2
   have v0:=hv2.cell 0
   have v1:=hv2.cell 1
   have f0:=hv2.free 0
   have f1:=hv2.free 1
   clear hR hy1 h2 hv2
   go_wp2
   refine bodyPost_ret (v := .agg #[.int .i64 (y:Nat),.int .i64 0]) (by simp [results,Tryz.results185,go_sem,v0,v1]) rfl ?_
   obtain ⟨f1,f2⟩:=item_end H2.out M2.out HV2.out (.inl rfl) HRW.out (((Touch.refl (fun k=>k=r) w2).setCell ⟨r,0,none⟩ (.int .i64 (y:Nat)) (.inl rfl)).setCell ⟨r,1,none⟩ (.int .i64 0) (.inl rfl))
   exact RTo.ok HR2.out f1 f2
def zn (l:List Nat):List Int:=l.map fun x:Nat=>(x:Int)
theorem zn_len (l:List Nat):(zn l).length=l.length:=by simp [zn]
theorem zn_nat (l:List Nat):nat (zn l)=l:=by simp [nat,zn,Function.comp_def]
theorem zn_app (a b:List Nat):zn (a++b)=zn a++zn b:=by simp [zn]
theorem zn_at (l:List Nat) (k:Nat):(zn l).getD k 0=(l.getD k 0:Nat):=by
 unfold zn
 rcases Nat.lt_or_ge k l.length with h | h <;> simp [List.getD,h]
def told1 (y v:Nat) (row:List Nat):List Nat:=List.replicate ((if y=16 then 3 else if y=17 then 3 else if y=18 then 11 else 1)+v) (if y=16 then row.getLastD 0 else if y=17 then 0 else if y=18 then 0 else y)
theorem told_eq {y v:Nat} {row:List Nat} (hy:y≤18) (hv:y<16→v=0):told y v row=if y=16∧row=[] then none else some (told1 y v row):=by
 unfold told told1
 by_cases h1:y<16
 ·rw [if_pos h1,if_neg (by omega),hv h1,if_neg (by omega),if_neg (by omega),if_neg (by omega),if_neg (by omega),if_neg (by omega),if_neg (by omega)]
  rfl
 ·rw [if_neg h1]
  by_cases h2:y=16
  ·by_cases h3:row=[]
   ·simp [h2,h3]
   ·simp [h2,h3]
  ·by_cases h4:y=17
   ·simp [h4]
   ·have:y=18:=by omega
    simp [this]
theorem itm_is {own:List Nat} {x:Nat × Nat} {t:Sta} (h:itm bs own s = .ok x t) (hl:own.length=19):x.1≤18∧(x.1<16→x.2=0)∧x.2<2^xb x.1:=by
 obtain ⟨y,s1,h1,h⟩:=Res.bind_is h
 have hb:=rdS_is h1
 have hy:=ln_lt (ls:=own) (s:=y) (by omega)
 split at h
 ·obtain ⟨v,s2,h2,h⟩:=Res.bind_is h
  cases h
  exact ⟨by show y≤18;omega,fun h=>by have:y<16:=h;omega,rdN_lt h2⟩
 ·cases h
  exact ⟨by show y≤18;omega,fun _=>rfl,Nat.two_pow_pos _⟩
theorem un_one {y v:Nat} {ts:List Int} {row:List Nat} (hy:y≤18) (h0:y<16→v=0) (hv:v<2^xb y) (ht:ts.length≤1) (hr:y=16→ts≠[]∧ts.getD (ts.length-1) 0=(row.getLastD 0:Nat)) :
  Z.un [((y:Int),(v:Int))] ts=some (ts++zn (told1 y v row)):=by
 have hW:¬Z.Wi y v ts.length∧((Z.spl y:Int)+v).toNat=(if y=16 then 3 else if y=17 then 3 else if y=18 then 11 else 1)+v∧Z.tv y ts=((if y=16 then row.getLastD 0 else if y=17 then 0 else if y=18 then 0 else y:Nat):Int):=by
  by_cases h1:y<16
  ·have e16:¬(y:Int)=16:=by omega
   have e17:¬(y:Int)=17:=by omega
   have e18:¬(y:Int)=18:=by omega
   have f16:¬y=16:=by omega
   have f17:¬y=17:=by omega
   have f18:¬y=18:=by omega
   have hv0:=h0 h1
   unfold Z.Wi Z.Bad Z.spl Z.spm Z.tv
   refine ⟨by simp [e16,e17,e18];omega,by simp [e16,e17,e18,f16,f17,f18];omega,by simp [e16,e17,e18,f16,f17,f18]⟩
  ·have hb:y=16∨y=17∨y=18:=by omega
   rcases hb with rfl | rfl | rfl
   ·obtain ⟨hne,hl⟩:=hr rfl
    have hp:ts.length≠0:=by simpa using hne
    have hv4:v<4:=hv
    unfold Z.Wi Z.Bad Z.spl Z.spm Z.tv
    refine ⟨by simp [hne];omega,by simp;omega,by rw [if_pos rfl,if_pos (show ((16:Nat):Int)=16 from rfl)];exact hl⟩
   ·have hv4:v<8:=hv
    unfold Z.Wi Z.Bad Z.spl Z.spm Z.tv
    refine ⟨by simp;omega,by simp;omega,by simp⟩
   ·have hv4:v<128:=hv
    unfold Z.Wi Z.Bad Z.spl Z.spm Z.tv
    refine ⟨by simp;omega,by simp;omega,by simp⟩
 unfold Z.un
 rw [if_neg hW.1,hW.2.1,hW.2.2]
 unfold Z.un
 unfold told1 zn
 rw [List.map_replicate]
theorem un_none (v:Nat):Z.un [((16:Int),(v:Int))] []=none:=by
 unfold Z.un
 rw [if_pos (.inr (.inr (.inl ⟨rfl,rfl⟩)))]
theorem un_two {y v L:Nat} {row:List Nat} (hy:y≤18) (h0:y<16→v=0) (hv:v<2^xb y) (hL:row.getLastD 0=L) (hL15:L≤15):Z.un [((L:Int),0),((y:Int),(v:Int))] []=some ((L:Int)::zn (told1 y v row)):=by
 have h1:Z.un [((L:Int),0),((y:Int),(v:Int))] []=Z.un [((y:Int),(v:Int))] [(L:Int)]:=by
  have hW:¬Z.Wi L 0 0∧((Z.spl L:Int)+0).toNat=1∧Z.tv L []=(L:Int):=by
   have e16:¬(L:Int)=16:=by omega
   have e17:¬(L:Int)=17:=by omega
   have e18:¬(L:Int)=18:=by omega
   unfold Z.Wi Z.Bad Z.spl Z.spm Z.tv
   refine ⟨by simp [e16,e17,e18];omega,by simp [e16,e17,e18],by simp [e16,e17,e18]⟩
  rw [Z.un,List.length_nil,if_neg hW.1,hW.2.1,hW.2.2]
  rfl
 rw [h1,un_one (row:=row) hy h0 hv (by simp) fun _=>⟨by simp,by rw [hL];rfl⟩]
 rfl
end
theorem at146:AT 251 252 (.agg #[.int .i64 0,.int .i64 0]) 2 16:=⟨by kernel_rfl,by kernel_rfl,rfl,by omega⟩
theorem own_ts {w:World} {base n c:Nat} {ao:Option Addr} {r:List (Int × Int)} (h:w.ownsRow base 252 2 (.slice ao n c) n (Z.icl r)) (hn:r.length=n):Z.TS w ao r:=by
 rcases h.2 with ⟨_,h0⟩ | ⟨g,cap,cur,e,_,hh,_,_,_,ht⟩
 ·exact .inl (List.eq_nil_of_length_eq_zero (by omega))
 ·simp only [Value.slice.injEq] at e
  obtain ⟨rfl,_,rfl⟩:=e
  refine .inr ⟨g,0,rfl,fun j v hv=>?_⟩
  rw [Nat.zero_add,cell_of_row w g j cur 252 (0,0) hh,←Array.getElem?_toList]
  rw [←ht,List.getElem?_take] at hv
  split at hv
  ·exact hv
  ·cases hv
theorem is_tail {w:World} {ao:Option Addr} {x:Int} {zs:List Int} (h:IS w ao (x::zs)):∃ b off,ao=some ⟨b,off,none⟩∧IS w (some ⟨b,off+1,none⟩) zs:=by
 rcases h with h | ⟨b,off,rfl,hc⟩
 ·cases h
 ·refine ⟨b,off,rfl,.inr ⟨b,off+1,rfl,fun j hj=>?_⟩⟩
  have:=hc (j+1) (by simp;omega)
  rw [show off+1+j=off+(j+1) by omega,this]
  rfl
theorem cells_two (w:World) (e:TypeId) (x y:Value):CellsAt (w.alloc (.cells #[x,y] e)) (.slice (some ⟨w.heap.size,0,none⟩) 1 1) 1 [x,y]:=by
 refine .inr ⟨_,1,rfl,fun j u hu=>?_⟩
 rw [Addr.add_lit,Nat.zero_add,(Blk.made w e _).cell]
 simpa using hu
theorem icl_two (x:Int × Int) (u:Value) (h:u∈[Value.int .i64 x.1,Value.int .i64 x.2]):u.oneCell'=true:=by
 simp at h
 rcases h with rfl | rfl <;> rfl
theorem told1_pos (y v:Nat) (row:List Nat):1≤(told1 y v row).length:=by
 unfold told1
 rw [List.length_replicate]
 split
 ·omega
 ·split
  ·omega
  ·split <;> omega
theorem told1_le {y v:Nat} (row:List Nat) (hv:v<2^xb y):(told1 y v row).length≤138:=by
 unfold told1
 rw [List.length_replicate]
 unfold xb at hv
 split
 ·rename_i h;subst h;simp at hv;omega
 ·split
  ·rename_i h;subst h;simp at hv;omega
  ·split
   ·rename_i h;subst h;simp at hv;omega
   ·rename_i h1 h2 h3
    rw [if_neg h1,if_neg h2,if_neg h3] at hv
    omega
section
variable {B K p pb:Nat} {g:Option Nat} {bs:List Nat} {lim:Nat} {w:World} {ov:Value} {s:Sta}
def nxt (bs own:List Nat) (row:List Nat) (s:Sta):Res (List Nat):=
 (itm bs own s).bind fun x s1=>match told x.1 x.2 row with | none => .bad 10 | some t => .ok t s1
def LB (B K p pb:Nat) (g:Option Nat) (bs:List Nat) (lim:Nat) (w:World) (ov:Value) (r:Res (List Nat)) (e:Ending) (w':World):Prop:=
 match r with
 | .bad er=>RBad p pb w ov er e w'
 | .ok t s=>∃ a c,e = .returned (.slice a t.length c)∧(IS w' a (zn t)∧t.length≤c)∧∃ ov',RS B K p pb g bs lim w' ov' s∧Mv p pb w ov w' ov'
theorem LB.bad {R:Res (List Nat)} {er:Nat} {w':World} (e:R = .bad er) (ht:Touch (FT p pb ov) w w'):LB B K p pb g bs lim w ov R (pan er) w':=by
 subst e;exact ⟨rfl,ht⟩
theorem LB.ok {R:Res (List Nat)} {t:List Nat} {s1:Sta} {w':World} {ov':Value} {a:Option Addr} {c n:Nat} (e:R = .ok t s1) (hn:t.length=n) (hcap:n≤c) (hi:IS w' a (zn t)) (h:RS B K p pb g bs lim w' ov' s1) (m:Mv p pb w ov w' ov') :
  LB B K p pb g bs lim w ov R (.returned (.slice a n c)) w':=by
 subst e;subst hn;exact ⟨a,c,rfl,⟨hi,hcap⟩,ov',h,m⟩
theorem row_safe {S:Nat→Prop} {w w':World} {base n:Nat} {v:Value} {xs:List Value} (h:w.ownsRow base 252 2 v n xs) (ht:Touch S w w') (hs:Safe w S):w'.ownsRow base 252 2 v n xs:=
 ownsRow_touch h ht fun k hk e=>by
  obtain ⟨cs,hc⟩:=own_ty h hk
  rcases hs k 252 cs hc e with x | x | x <;> simp at x
theorem RS.list {w1 W:World} {ov1:Value} {s1:Sta} {n:Nat} {v:Value} {xs:List Value} (h:RS B K p pb g bs lim W ov1 s1) (m:Mv p pb w ov W ov1) (hrow:W.ownsRow w.heap.size 252 2 v n xs) (ht:Touch (fun k=>v.ownBlock=some k) W w1) :
  RS B K p pb g bs lim w1 ov1 s1∧Mv p pb w ov w1 ov1:=by
 cases hv:v.ownBlock with
 | none=>
  obtain ⟨h2,m2⟩:=h.grow (ht.below (Nat.le_refl _) fun k hk=>by rw [hv] at hk;cases hk)
  exact ⟨h2,m.trans m2⟩
 | some k=>
  obtain ⟨cs,hc⟩:=own_ty hrow hv
  exact item_end h m (show Blk W k 252 cs from hc) (.inl rfl) (hrow.lt k hv).1 (ht.mono fun i hi=>by rw [hv] at hi;cases hi;rfl)
theorem RS.built {w1 W:World} {ov1:Value} {s1:Sta} {n n':Nat} {v v':Value} {xs ys:List Value} {o:Obj} (h:RS B K p pb g bs lim W ov1 s1) (m:Mv p pb w ov W ov1) (hrow:W.ownsRow w.heap.size 252 2 v n xs) (hA:Apg (W.alloc o) w.heap.size 252 2 v n' ys v' w1) :
  RS B K p pb g bs lim w1 ov1 s1∧Mv p pb w ov w1 ov1:=by
 obtain ⟨h2,m2⟩:=h.grow ((Below.refl _ W).alloc (Nat.le_refl _) o)
 exact h2.list (m.trans m2) (World.ownsRow.alloc (w:=W) hrow _) hA.touch
set_option maxHeartbeats 3200000 in
theorem behind_some {pc c:Nat} {ao:Option Addr} {own row:List Nat} (h:RS B K p pb g bs lim w ov s) (hc:CodeAt w pc own) (hl:own.length=19) (hr:IS w ao (zn row)) (hrl:row.length≤320) (hr15:∀ x∈row,x≤15) (hne:row≠[]) :
  Calls Tryz.prog 173 #[.pointer (some ⟨p,0,none⟩),.slice ao row.length c,.pointer (some ⟨pc,0,none⟩)] w (LB B K p pb g bs lim w ov (nxt bs own row s)):=by
 obtain ⟨R,hR⟩:∃ R,R=nxt bs own row s:=⟨_,rfl⟩
 rw [←hR]
 unfold nxt at hR
 have HR:=Lib.hid hR
 obtain ⟨n,hn⟩:∃ n,row.length=n+1:=⟨row.length-1,by have:=List.length_pos_iff.2 hne;omega⟩
 obtain ⟨b,off,rfl,q0⟩:=hr.at (k:=n) (by rw [zn_len];omega)
 obtain ⟨L,hL⟩:∃ L,L=row.getD n 0:=⟨_,rfl⟩
 rw [zn_at,←hL] at q0
 have hLL:row.getLastD 0=L:=by
  rw [hL,List.getLastD_eq_getLast?,List.getLast?_eq_getElem?,hn,Nat.add_sub_cancel,List.getD_eq_getElem?_getD]
 have hL15:L≤15:=by
  rw [hL,List.getD_eq_getElem?_getD,List.getElem?_eq_getElem (by omega)]
  exact hr15 _ (List.getElem_mem _)
 have HL:=Lib.hid hLL
 have HNE:=Lib.hid hne
 have H:=Lib.hid h
 have HC:=Lib.hid hc
 have HQ:=Lib.hid q0
 have hbl:=World.block_lt_of_cell? w _ q0
 have hn':n≤319:=by omega
 obtain ⟨m,hm⟩:∃ m,m=row.length:=⟨_,rfl⟩
 rw [←hm]
 have hm1:m=n+1:=by omega
 have e1:(m:Int)-1=n:=by omega
 have e2:(0:Int)<m:=by omega
 have e3:(n:Int)<m:=by omega
 have e4:(m:Int)≤320:=by omega
 have e5:(0:Int)≤(n:Int):=by omega
 clear hm hm1 hR hr hr15 hne hn hL hLL h hc q0 hrl
 obtain ⟨i,hi1,hi2,hi3,hi4⟩:=info_parts at146.info
 have HI:=Lib.hid (And.intro hi1 (And.intro hi2 (And.intro hi3 hi4)))
 clear hi1 hi2 hi3 hi4
 go_enter Tryz.func173,Tryz.ntmps173
 go_wp2_with (first
  | (refine wpList_make_own _ rfl _ _ 251 rfl w.heap.size 252 i (.agg #[.int .i64 0,.int .i64 0]) 2 at146.hu HI.out.1 HI.out.2.1 HI.out.2.2.1 .i64 .i64 _ 2 rfl rfl rfl (by rw [HI.out.2.2.2];decide) (by decide) (Nat.le_refl _) ?_;intro W1 ho1 hg1;have HO1:=Lib.hid ho1;have HT1:=Lib.hid ((Touch.refl (fun _=>False) w).grown hg1 (fun k hk=>by cases hk));have q1:=((HT1.out.below (Nat.le_refl _) fun _ h=>h.elim).cell (p:=⟨b,off+n,none⟩) hbl).trans HQ.out;clear ho1 hg1)
  | (refine wpList_append_g at146 rfl (.tmp 17) (.tmp 24) rfl w.heap.size (.slice (some ⟨w.heap.size,0,none⟩) 0 2) (.slice (some ⟨W1.heap.size,0,none⟩) 1 1) 0 1 [] [.int .i64 (L:Nat),.int .i64 0] rfl rfl (World.ownsRow.alloc (w:=W1) HO1.out _) (cells_two W1 252 _ _) rfl (icl_two ((L:Int),0)) (Nat.le_trans HT1.out.size (by simp)) (by omega) (by omega) ?_;intro ao2 c2 W2 hA2;have HA2:=Lib.hid hA2;clear hA2))
 have HB2:Hid (Below w.heap.size w W2):=Lib.hid ((HT1.out.below (Nat.le_refl _) fun _ h=>h.elim).trans (((Below.refl W1.heap.size W1).alloc (Nat.le_refl _) _ |>.mono HT1.out.size).trans (HA2.out.below (World.ownsRow.alloc (w:=W1) HO1.out _) (Nat.le_trans HT1.out.size (by simp)))))
 obtain ⟨h2,m2⟩:=H.out.grow HB2.out
 have k2:=HC.out.below HB2.out
 have M2:=Lib.hid m2
 have HO2:Hid (W2.ownsRow w.heap.size 252 2 (.slice ao2 1 c2) 1 [.int .i64 (L:Nat),.int .i64 0]):=Lib.hid HA2.out.own
 clear HO1 HT1 HA2 q1 m2
 refine (item_any h2 k2).mono ?_
 rintro e w3 h3
 cases hr3:itm bs own s with
 | bad er=>
  rw [hr3] at h3
  obtain ⟨rfl,ht⟩:=h3
  have hR:=HR.out
  rw [hr3] at hR
  have HR1:=Lib.hid hR
  clear hr3 hR h2 k2
  go_wp2
  exact ⟨rfl,LB.bad HR1.out (M2.out.bad ht)⟩
 | ok x s3=>
  rw [hr3] at h3
  obtain ⟨rfl,ov3,h3,m3⟩:=h3
  obtain ⟨hy,h0,hv⟩:=itm_is hr3 hl
  have hR:=HR.out
  rw [hr3,Res.bind_ok,told_eq hy h0] at hR
  obtain ⟨y,v⟩:=x
  simp only at hy h0 hv hR
  have hne:¬(y=16∧row=[]):=fun e=>HNE.out e.2
  rw [if_neg hne] at hR
  have HR1:=Lib.hid hR
  have hU:=un_two (row:=row) hy h0 hv HL.out hL15
  have hlen:=told1_pos y v row
  have hlen2:=told1_le (v:=v) row hv
  have HU:=Lib.hid hU
  have M3:=Lib.hid (M2.out.trans m3)
  have HO3:=Lib.hid (row_safe HO2.out m3.touch h2.safe)
  have H3:=Lib.hid h3
  have hbase:w.heap.size≤w3.heap.size:=Nat.le_trans HB2.out.size m3.touch.size
  obtain ⟨t,ht⟩:∃ t,t=told1 y v row:=⟨_,rfl⟩
  rw [←ht] at HR1 HU hlen hlen2
  have HLEN:=Lib.hid (And.intro hlen hlen2)
  clear hlen2 hr3 hR hy h0 hv hne hU m3 h2 k2 h3 ht HO2 HB2 M2 HR hlen
  go_wp2_with (refine wpList_append_g at146 rfl (.tmp 29) (.tmp 33) rfl w.heap.size (.slice ao2 1 c2) (.slice (some ⟨w3.heap.size,0,none⟩) 1 1) 1 1 [.int .i64 (L:Nat),.int .i64 0] [.int .i64 (y:Nat),.int .i64 (v:Nat)] rfl rfl (World.ownsRow.alloc (w:=w3) HO3.out _) (cells_two w3 252 _ _) rfl (icl_two ((y:Int),(v:Int))) (Nat.le_trans hbase (by simp)) (by omega) (by omega) ?_;intro ao4 c4 W4 hA4;have HA4:=Lib.hid hA4;clear hA4)
  obtain ⟨h4,m4⟩:=H3.out.built M3.out HO3.out HA4.out
  have hts:Z.TS W4 ao4 [((L:Int),0),((y:Int),(v:Int))]:=own_ts (n:=2) (c:=c4) HA4.out.own rfl
  refine (Z.unpack_any ao4 c4 [((L:Int),0),((y:Int),(v:Int))] W4 hts (by simp)).mono ?_
  rintro e w5 ⟨hb5,_,hs5⟩
  obtain ⟨a5,c5,rfl,i5,k5⟩:=hs5 _ HU.out
  obtain ⟨h6,m6⟩:=h4.grow hb5
  have M6:=Lib.hid (m4.trans m6)
  have H6:=Lib.hid h6
  obtain ⟨b5,o5,rfl,i6⟩:=is_tail (zs:=zn t) i5
  have I6:=Lib.hid i6
  have hz:((L:Int)::zn t).length=t.length+1:=by rw [List.length_cons,zn_len]
  rw [hz] at k5 ⊢
  obtain ⟨q,hq⟩:∃ q,q=t.length:=⟨_,rfl⟩
  rw [←hq] at k5 ⊢
  have hq1:1≤q:=by have:=HLEN.out;omega
  have HQ2:=Lib.hid hq
  have hc5:¬(c5=1):=by omega
  clear h4 m4 hts hb5 hs5 h6 m6 i5 i6 hz hq H3 M3 HO3 HA4 HU
  go_wp2_with (go_at_call 135;(with_reducible refine (must_yes _ _).mono ?_);rintro e w7 ⟨rfl,rfl⟩)
  go_ret
  exact LB.ok HR1.out HQ2.out.symm (by omega) I6.out H6.out M6.out
set_option maxHeartbeats 3200000 in
theorem behind_none {pc c:Nat} {ao:Option Addr} {own:List Nat} (h:RS B K p pb g bs lim w ov s) (hc:CodeAt w pc own) (hl:own.length=19) :
  Calls Tryz.prog 173 #[.pointer (some ⟨p,0,none⟩),.slice ao 0 c,.pointer (some ⟨pc,0,none⟩)] w (LB B K p pb g bs lim w ov (nxt bs own [] s)):=by
 obtain ⟨R,hR⟩:∃ R,R=nxt bs own [] s:=⟨_,rfl⟩
 rw [←hR]
 unfold nxt at hR
 have HR:=Lib.hid hR
 have H:=Lib.hid h
 have HC:=Lib.hid hc
 clear hR h hc
 obtain ⟨i,hi1,hi2,hi3,hi4⟩:=info_parts at146.info
 have HI:=Lib.hid (And.intro hi1 (And.intro hi2 (And.intro hi3 hi4)))
 clear hi1 hi2 hi3 hi4
 go_enter Tryz.func173,Tryz.ntmps173
 go_wp2_with (refine wpList_make_own _ rfl _ _ 251 rfl w.heap.size 252 i (.agg #[.int .i64 0,.int .i64 0]) 2 at146.hu HI.out.1 HI.out.2.1 HI.out.2.2.1 .i64 .i64 _ 2 rfl rfl rfl (by rw [HI.out.2.2.2];decide) (by decide) (Nat.le_refl _) ?_;intro W2 ho1 hg1;have HO2:=Lib.hid ho1;have HT1:=Lib.hid ((Touch.refl (fun _=>False) w).grown hg1 (fun k hk=>by cases hk));clear ho1 hg1)
 have HB2:Hid (Below w.heap.size w W2):=Lib.hid (HT1.out.below (Nat.le_refl _) fun _ h=>h.elim)
 obtain ⟨h2,m2⟩:=H.out.grow HB2.out
 have k2:=HC.out.below HB2.out
 have M2:=Lib.hid m2
 clear HT1 m2
 refine (item_any h2 k2).mono ?_
 rintro e w3 h3
 cases hr3:itm bs own s with
 | bad er=>
  rw [hr3] at h3
  obtain ⟨rfl,ht⟩:=h3
  have hR:=HR.out
  rw [hr3] at hR
  have HR1:=Lib.hid hR
  clear hr3 hR h2 k2
  go_wp2
  exact ⟨rfl,LB.bad HR1.out (M2.out.bad ht)⟩
 | ok x s3=>
  rw [hr3] at h3
  obtain ⟨rfl,ov3,h3,m3⟩:=h3
  obtain ⟨hy,h0,hv⟩:=itm_is hr3 hl
  have hR:=HR.out
  rw [hr3,Res.bind_ok,told_eq hy h0] at hR
  obtain ⟨y,v⟩:=x
  simp only at hy h0 hv hR
  have HR1:=Lib.hid hR
  have M3:=Lib.hid (M2.out.trans m3)
  have HO3:=Lib.hid (row_safe HO2.out m3.touch h2.safe)
  have H3:=Lib.hid h3
  have hbase:w.heap.size≤w3.heap.size:=Nat.le_trans HB2.out.size m3.touch.size
  have HY:=Lib.hid (And.intro hy (And.intro h0 hv))
  clear hr3 hR hy h0 hv m3 h2 k2 h3 HO2 HB2 M2 HR
  go_wp2_with (refine wpList_append_g at146 rfl (.tmp 29) (.tmp 33) rfl w.heap.size (.slice (some ⟨w.heap.size,0,none⟩) 0 2) (.slice (some ⟨w3.heap.size,0,none⟩) 1 1) 0 1 [] [.int .i64 (y:Nat),.int .i64 (v:Nat)] rfl rfl (World.ownsRow.alloc (w:=w3) HO3.out _) (cells_two w3 252 _ _) rfl (icl_two ((y:Int),(v:Int))) (Nat.le_trans hbase (by simp)) (by omega) (by omega) ?_;intro ao4 c4 W4 hA4;have HA4:=Lib.hid hA4;clear hA4)
  obtain ⟨h4,m4⟩:=H3.out.built M3.out HO3.out HA4.out
  have hts:Z.TS W4 ao4 [((y:Int),(v:Int))]:=own_ts (n:=1) (c:=c4) HA4.out.own rfl
  refine (Z.unpack_any ao4 c4 [((y:Int),(v:Int))] W4 hts (by simp)).mono ?_
  rintro e w5 ⟨hb5,hn5,hs5⟩
  obtain ⟨h6,m6⟩:=h4.grow hb5
  have M6:=Lib.hid (m4.trans m6)
  have H6:=Lib.hid h6
  by_cases hy16:y=16
  ·subst hy16
   have hR:=HR1.out
   rw [if_pos (by simp)] at hR
   have HR2:=Lib.hid hR
   obtain rfl:=hn5 (un_none v)
   clear h4 m4 hts hb5 hs5 h6 m6 H3 M3 HO3 HA4 hR hn5
   go_wp2_with (go_at_call 135;(refine (must_no 10 _).mono ?_);rintro e w7 ⟨rfl,rfl⟩)
   exact ⟨rfl,LB.bad HR2.out M6.out.touch⟩
  ·have hR:=HR1.out
   rw [if_neg (fun e=>hy16 e.1)] at hR
   have HR2:=Lib.hid hR
   have hU:=un_one (row:=[]) (ts:=[]) HY.out.1 HY.out.2.1 HY.out.2.2 (by simp) fun e=>absurd e hy16
   obtain ⟨a5,c5,rfl,i5,k5⟩:=hs5 _ hU
   rw [List.nil_append] at i5 k5
   have I5:=Lib.hid i5
   have hz:([]++zn (told1 y v [])).length=(told1 y v []).length:=by rw [List.nil_append,zn_len]
   rw [hz]
   rw [zn_len] at k5
   have hlen:=told1_pos y v []
   have hlen2:=told1_le (v:=v) [] HY.out.2.2
   obtain ⟨q,hq⟩:∃ q,q=(told1 y v []).length:=⟨_,rfl⟩
   rw [←hq] at k5 hlen hlen2 ⊢
   have HQ2:=Lib.hid hq
   have hc5:¬(c5=0):=by omega
   clear h4 m4 hts hb5 hs5 h6 m6 i5 hz hq H3 M3 HO3 HA4 hU hn5 hR hy16
   go_wp2_with (go_at_call 135;(with_reducible refine (must_yes _ _).mono ?_);rintro e w7 ⟨rfl,rfl⟩)
   go_ret
   exact LB.ok HR2.out HQ2.out.symm k5 I5.out H6.out M6.out
end
theorem run_is {α : Type} {L:Nat} {f : α → Sta→Res (Bool × α)} (hf:Takes L f) (I O : α → Prop) (h:∀ a s x s',I a→s.at_≤L→f a s = .ok x s'→(x.1=true→O x.2)∧(x.1=false→I x.2)) :
  ∀ a s b t,I a→s.at_≤L→run L f a s = .ok b t→O b:=by
 have key:∀ n a s b t,L-s.at_≤n→I a→s.at_≤L→run L f a s = .ok b t→O b:=by
  intro n
  induction n with
  | zero=>
   intro a s b t hn hI hs hr
   rw [run_eq hf a hs] at hr
   obtain ⟨x,s',h1,h2⟩:=Res.bind_is hr
   have:=hf a s x s' hs h1
   omega
  | succ n ih=>
   intro a s b t hn hI hs hr
   rw [run_eq hf a hs] at hr
   obtain ⟨x,s',h1,h2⟩:=Res.bind_is hr
   have h3:=hf a s x s' hs h1
   have h4:=h a s x s' hI hs h1
   split at h2
   ·rename_i hx;cases h2;exact h4.1 hx
   ·rename_i hx;exact ih x.2 s' b t (by omega) (h4.2 (by simpa using hx)) h3.2 h2
 exact fun a s b t hI hs hr=>key _ a s b t (Nat.le_refl _) hI hs hr
section
variable {B K p pb:Nat} {g:Option Nat} {bs:List Nat} {lim:Nat} {w:World} {ov:Value} {s:Sta}
theorem told1_small {y v:Nat} {row:List Nat} (hy:y≤18) (hr:∀ x∈row,x≤15):∀ x∈told1 y v row,x≤15:=by
 intro x hx
 unfold told1 at hx
 rw [List.mem_replicate] at hx
 rw [hx.2]
 split
 ·rw [List.getLastD_eq_getLast?]
  cases hl:row.getLast? with
  | none=>exact Nat.zero_le _
  | some z=>exact hr z (List.mem_of_getLast? hl)
 ·split
  ·exact Nat.zero_le _
  ·split
   ·exact Nat.zero_le _
   ·omega
theorem nxt_is {own row t:List Nat} {s1:Sta} (h:nxt bs own row s = .ok t s1) (hl:own.length=19) (hr:∀ x∈row,x≤15) (hs:s.at_≤8*bs.length):(∀ x∈t,x≤15)∧1≤t.length∧t.length≤138∧s.at_<s1.at_:=by
 obtain ⟨x,s',h1,h2⟩:=Res.bind_is h
 obtain ⟨hy,h0,hv⟩:=itm_is h1 hl
 have h3:=itm_le (lim:=0) own hs h1
 rw [told_eq hy h0] at h2
 split at h2
 ·cases h2
 ·rename_i ht
  split at ht
  ·cases ht
  ·cases ht
   cases h2
   exact ⟨told1_small hy hr,told1_pos _ _ _,told1_le _ hv,h3.1⟩
theorem len1_nxt (own:List Nat) (n:Nat) (row:List Nat) (s:Sta):len1 bs own n row s=(nxt bs own row s).bind fun t s1=>if n<(row++t).length then .bad 10 else .ok (decide ((row++t).length=n),row++t) s1:=by
 unfold len1 nxt
 cases itm bs own s with
 | bad e=>rfl
 | ok x s1=>
  simp only [Res.bind_ok]
  cases told x.1 x.2 row with
  | none=>rfl
  | some t=>rfl
theorem lens_eq (own:List Nat) (n:Nat) (row:List Nat) {s:Sta} (hs:s.at_≤8*bs.length):run (8*bs.length) (len1 bs own n) row s=(nxt bs own row s).bind fun t s1=>
  if n<(row++t).length then .bad 10 else if (row++t).length=n then .ok (row++t) s1 else run (8*bs.length) (len1 bs own n) (row++t) s1:=by
 rw [run_eq (len1_takes own n) row hs,len1_nxt]
 cases nxt bs own row s with
 | bad e=>rfl
 | ok t s1=>
  simp only [Res.bind_ok]
  split
  ·rfl
  ·simp only [Res.bind_ok,decide_eq_true_eq]
theorem lens_is {own row:List Nat} {n:Nat} {t:Sta} (hl:own.length=19) (hs:s.at_≤8*bs.length) (h:lens bs own n s = .ok row t):row.length=n∧∀ x∈row,x≤15:=by
 refine run_is (len1_takes own n) (fun row=>∀ x∈row,x≤15) (fun row=>row.length=n∧∀ x∈row,x≤15) (fun a s x s' hI hs hx=>?_) [] s row t (fun x hx=>by simp at hx) hs h
 rw [len1_nxt] at hx
 obtain ⟨t,s1,h1,h2⟩:=Res.bind_is hx
 obtain ⟨k1,k2,k3,k4⟩:=nxt_is h1 hl hI hs
 split at h2
 ·cases h2
 ·cases h2
  have hall:∀ x∈a++t,x≤15:=fun x hx=>by
   rcases List.mem_append.1 hx with hx | hx
   ·exact hI x hx
   ·exact k1 x hx
  exact ⟨fun he=>⟨by simpa using he,hall⟩,fun _=>hall⟩
theorem behind_any {pc c n:Nat} {ao:Option Addr} {own row:List Nat} (h:RS B K p pb g bs lim w ov s) (hc:CodeAt w pc own) (hl:own.length=19) (hr:IS w ao (zn row)) (hn:row.length=n) (hrl:row.length≤320) (hr15:∀ x∈row,x≤15) :
  Calls Tryz.prog 173 #[.pointer (some ⟨p,0,none⟩),.slice ao n c,.pointer (some ⟨pc,0,none⟩)] w (LB B K p pb g bs lim w ov (nxt bs own row s)):=by
 subst hn
 by_cases hne:row=[]
 ·subst hne
  exact behind_none h hc hl
 ·exact behind_some h hc hl hr hrl hr15 hne
def Lst (bs own:List Nat) (n:Nat) (R:Res (List Nat)) (row:List Nat) (s:Sta):Prop:=
 (row.length<n∧run (8*bs.length) (len1 bs own n) row s=R)∨(row.length=n∧R = .ok row s)∨(n<row.length∧R = .bad 10)
structure Lx (B K p pb:Nat) (g:Option Nat) (bs:List Nat) (lim:Nat) (w:World) (ov:Value) (pc:Nat) (own:List Nat) (ao:Option Addr) (c:Nat) (wr:World) (ov':Value) (s':Sta) (row:List Nat):Prop where
 rs:RS B K p pb g bs lim wr ov' s'
 mv:Mv p pb w ov wr ov'
 code:CodeIn wr w.heap.size pc own
 own_:wr.ownsRow w.heap.size 3 1 (.slice ao row.length c) row.length (iv (zn row))
 small:∀ x∈row,x≤15
theorem row3_touch {w1 W:World} (hK:K≤w.heap.size) {ov1 v:Value} {s1:Sta} {n:Nat} {xs:List Value} (h:RS B K p pb g bs lim W ov1 s1) (m:Mv p pb w ov W ov1) (hrow:W.ownsRow w.heap.size 3 1 v n xs) (ht:Touch (fun k=>v.ownBlock=some k) W w1) :
  RS B K p pb g bs lim w1 ov1 s1∧Mv p pb w ov w1 ov1:=by
 cases hv:v.ownBlock with
 | none=>
  obtain ⟨h2,m2⟩:=h.grow (ht.below (Nat.le_refl _) fun k hk=>by rw [hv] at hk;cases hk)
  exact ⟨h2,m.trans m2⟩
 | some k=>
  obtain ⟨cs,hc⟩:=own_ty hrow hv
  exact item_end h m (show Blk W k 3 cs from hc) (.inr ⟨.inl rfl,Nat.le_trans hK (hrow.lt k hv).1⟩) (hrow.lt k hv).1 (ht.mono fun i hi=>by rw [hv] at hi;cases hi;rfl)
theorem row3_code {w1 W:World} {v:Value} {n pc:Nat} {ls:List Nat} {xs:List Value} (h:CodeIn W w.heap.size pc ls) (hrow:W.ownsRow w.heap.size 3 1 v n xs) (ht:Touch (fun k=>v.ownBlock=some k) W w1):CodeIn w1 w.heap.size pc ls:=by
 cases hv:v.ownBlock with
 | none=>exact h.safe (ht.mono (T:=fun _=>False) fun k hk=>by rw [hv] at hk;cases hk) (fun _ _ _ _ h=>h.elim)
 | some k=>
  obtain ⟨cs,hc⟩:=own_ty hrow hv
  exact h.aside (show Blk W k 3 cs from hc) (ht.mono fun i hi=>by rw [hv] at hi;cases hi;rfl) ⟨by decide,by decide,fun _=>(hrow.lt k hv).1⟩
set_option maxHeartbeats 3200000 in
theorem lengths_any {pc n:Nat} {own:List Nat} (hK:K≤w.heap.size) (h:RS B K p pb g bs lim w ov s) (hc:CodeAt w pc own) (hl:own.length=19) (hn1:1≤n) (hn:n≤320) :
  Calls Tryz.prog 157 #[.pointer (some ⟨p,0,none⟩),.pointer (some ⟨pc,0,none⟩),.int .i64 n] w (LB B K p pb g bs lim w ov (lens bs own n s)):=by
 obtain ⟨R,hR⟩:∃ R,R=lens bs own n s:=⟨_,rfl⟩
 rw [←hR]
 have HL0:Hid (Lst bs own n R [] s):=Lib.hid (.inl ⟨by simp;omega,hR.symm⟩)
 have H:=Lib.hid h
 have HK:=Lib.hid hK
 have HC:=Lib.hid hc.in_
 clear hR h hc hK
 obtain ⟨i,hi1,hi2,hi3,hi4⟩:=info_parts at22.info
 have HI:=Lib.hid (And.intro hi1 (And.intro hi2 (And.intro hi3 hi4)))
 clear hi1 hi2 hi3 hi4
 go_enter Tryz.func157,Tryz.ntmps157
 go_wp2_with (refine wpList_make_own _ rfl _ _ 88 rfl w.heap.size 3 i (.int .i64 0) 1 at22.hu HI.out.1 HI.out.2.1 HI.out.2.2.1 .i64 .i64 _ n rfl rfl rfl (by rw [HI.out.2.2.2];omega) (by unfold maxLen;omega) (Nat.le_refl _) ?_;intro W1 ho1 hg1;have HO1:=Lib.hid ho1;have HT1:=Lib.hid ((Touch.refl (fun _=>False) w).grown hg1 (fun k hk=>by cases hk));clear ho1 hg1)
 have HX0:Hid (Lx B K p pb g bs lim w ov pc own (some ⟨w.heap.size,0,none⟩) n W1 ov s []):=Lib.hid (by
  have hb:Below w.heap.size w W1:=HT1.out.below (Nat.le_refl _) fun _ h=>h.elim
  obtain ⟨h2,m2⟩:=H.out.grow hb
  exact ⟨h2,m2,HC.out.safe (Touch.of_below hb:Touch (fun _=>False) w W1) (fun _ _ _ _ h=>h.elim),HO1.out,fun x hx=>by simp at hx⟩)
 clear HO1 HT1 H HC
 go_loopg [7] (8*bs.length+1) (fun gm v wr=>∃ (row:List Nat) (s':Sta) (ao:Option Addr) (c:Nat) (ov':Value),8*bs.length+1-s'.at_≤gm∧v = .slice ao row.length c∧Hid (Lst bs own n R row s')∧row.length≤600∧Lx B K p pb g bs lim w ov pc own ao c wr ov' s' row)
 case atStart=>exact ⟨[],s,_,n,ov,by omega,rfl,HL0,by simp,HX0.out⟩
 case round=>
  clear HX0 HL0
  obtain ⟨row,s1,ao,c,ov1,hgm,rfl,HS,hr6,hx⟩:=hrel
  have HX:=Lib.hid hx
  have hin:=hx.rs.in_
  clear hx
  rcases HS.out with ⟨hlt,hrun⟩ | ⟨heq,hRe⟩ | ⟨hgt,hRe⟩
  ·have hRR:=hrun.symm
   rw [lens_eq own n row hin] at hRR
   have HR:=Lib.hid hRR
   have hlt':(row.length:Int)<n:=by omega
   have hI:=HX.out.own_
   have HI2:=Lib.hid (own_is hI (zn_len row))
   clear hrun hRR hI
   go_wp2_with fail
   refine (behind_any HX.out.rs HX.out.code.at_ hl HI2.out rfl (by omega) HX.out.small).mono ?_
   rintro e w2 h2
   have hRR:=HR.out
   cases hr1:nxt bs own row s1 with
   | bad er=>
    rw [hr1] at h2 hRR
    obtain ⟨rfl,ht⟩:=h2
    have HR1:=Lib.hid hRR
    clear hr1 hRR
    go_wp2
    exact ⟨rfl,LB.bad HR1.out (HX.out.mv.bad ht)⟩
   | ok t s2=>
    rw [hr1,Res.bind_ok] at hRR
    rw [hr1] at h2
    obtain ⟨a2,c2,rfl,⟨i2,_⟩,ov2,h2,m2⟩:=h2
    obtain ⟨k1,k2,k3,k4⟩:=nxt_is hr1 hl HX.out.small hin
    have HR1:=Lib.hid hRR
    have hsf:=HX.out.rs.safe
    have HC2:=Lib.hid (HX.out.code.safe m2.touch hsf)
    have HO2:Hid (w2.ownsRow w.heap.size 3 1 (.slice ao row.length c) row.length (iv (zn row))):=Lib.hid (ownsRow_touch HX.out.own_ m2.touch fun k hk e=>by
     obtain ⟨cs,hc⟩:=own_ty HX.out.own_ hk
     rcases hsf k 3 cs hc e with x | x | x <;> simp at x)
    have H2:=Lib.hid h2
    have M2:=Lib.hid (HX.out.mv.trans m2)
    have hne:zn t≠[]:=fun e=>by have:=zn_len t;rw [e] at this;simp at this;omega
    have HCA:Hid (CellsAt w2 (.slice a2 t.length c2) t.length (iv (zn t))):=Lib.hid (by have:=i2.cells (c:=c2) fun e=>absurd e hne;rwa [zn_len] at this)
    have hsz:w.heap.size≤w2.heap.size:=M2.out.touch.size
    have HSM:Hid (∀ x∈row++t,x≤15):=Lib.hid fun x hx=>by
     rcases List.mem_append.1 hx with hx | hx
     ·exact HX.out.small x hx
     ·exact k1 x hx
    clear hr1 hRR h2 m2 i2 hne hsf k1
    go_wp2_with (refine wpList_append_g at22 rfl (.tmp 14) (.tmp 18) rfl w.heap.size (.slice ao row.length c) (.slice a2 t.length c2) row.length t.length (iv (zn row)) (iv (zn t)) rfl rfl HO2.out HCA.out (by simp [iv_len,zn_len]) (iv_one _) hsz (by omega) (by omega) ?_;intro ao3 c3 W3 hA;have HA:=Lib.hid hA;clear hA)
    go_roundg (8*bs.length+1-s2.at_)
    case measure=>omega
    case rel=>
     have hrow:(row++t).length=row.length+t.length:=List.length_append
     refine ⟨row++t,s2,ao3,c3,ov2,Nat.le_refl _,by rw [hrow],?_,by omega,?_⟩
     ·have hR1:=HR1.out
      by_cases g1:n<(row++t).length
      ·rw [if_pos g1] at hR1
       exact Lib.hid (.inr (.inr ⟨g1,hR1⟩))
      ·rw [if_neg g1] at hR1
       by_cases g2:(row++t).length=n
       ·rw [if_pos g2] at hR1
        exact Lib.hid (.inr (.inl ⟨g2,hR1⟩))
       ·rw [if_neg g2] at hR1
        exact Lib.hid (.inl ⟨by omega,hR1.symm⟩)
     ·have hA3:=HA.out
      have ho:=hA3.own
      rw [iv_app,←zn_app,←hrow] at ho
      obtain ⟨h5,m5⟩:=row3_touch HK.out H2.out M2.out HO2.out hA3.touch
      exact ⟨h5,m5,row3_code HC2.out HO2.out hA3.touch,ho,HSM.out⟩
  ·have hge:(n:Int)≤row.length:=by omega
   have d1:((row.length:Int) == n)=true:=by simp;omega
   have HRE:=Lib.hid hRe
   have HQE:=Lib.hid heq
   have HI2:=Lib.hid (own_is HX.out.own_ (zn_len row))
   clear hRe heq
   go_wp2_with (go_at_call 135;(with_reducible refine (must_yes _ _).mono ?_);rintro e w7 ⟨rfl,rfl⟩)
   go_ret
   exact LB.ok HRE.out rfl (Z.own_cap HX.out.own_) HI2.out HX.out.rs HX.out.mv
  ·have hge:(n:Int)≤row.length:=by omega
   have d1:((row.length:Int) == n)=false:=by simp;omega
   have HRE:=Lib.hid hRe
   clear hRe hgt
   go_wp2_with (go_at_call 135;(refine (must_no 10 _).mono ?_);rintro e w7 ⟨rfl,rfl⟩)
   exact ⟨rfl,LB.bad HRE.out HX.out.mv.touch⟩
end
end
end Go.Proofs.YthbbpooobaahiaaGreatDoor
