/- Part 11. -/
import Derived.Defers
import Derived.Recover
import Derived.Test.YthbbpooobaahiaaGreatDoorXB10
namespace Go.Proofs.YthbbpooobaahiaaGreatDoor
set_option maxRecDepth 100000
section
open Go.RowKit
def Tab (w:World):Prop:=∀ j,j<19→w.cell? ⟨3,j,none⟩=some (.int .i64 (ord.getD j 0:Nat))
theorem Tab.touch {S:Nat→Prop} {w w':World} (h:Tab w) (ht:Touch S w w') (hs:¬S 3):Tab w':=fun j hj=>by
 have h1:=h j hj
 rw [←h1]
 exact World.cell?_of_block (ht.block 3 (World.block_lt_of_cell? w _ h1) hs)
theorem Tab.below {w w':World} (h:Tab w) (hb:Below w.heap.size w w'):Tab w':=h.touch (Touch.of_below hb:Touch (fun _=>False) w w') fun h=>h
theorem Tab.pos {w:World} (h:Tab w):3<w.heap.size:=World.block_lt_of_cell? w _ (h 0 (by omega))
theorem ord_idx:∀ i,i<19→∀ k,k<19→(ord.idxOf i=k↔i=ord.getD k 0):=by decide +kernel
theorem ord_lt:∀ k,k<19→ord.getD k 0<19:=by decide +kernel
theorem ownOf_len (l:List Nat):(ownOf l).length=19:=by simp [ownOf]
theorem ownOf_at (l:List Nat) (i:Nat) (h:i<19):(ownOf l).getD i 0=l.getD (ord.idxOf i) 0:=by simp [ownOf,List.getD,h]
theorem ownOf_set (l:List Nat) (v:Nat) (hl:l.length<19):(ia 19 fun j=>(ownOf l).getD j 0).setIfInBounds (ord.getD l.length 0) (.int .i64 (v:Nat))=ia 19 fun j=>(ownOf (l++[v])).getD j 0:=by
 refine ia_set 19 _ _ _ v fun i hi=>?_
 rw [ownOf_at _ _ hi,ownOf_at _ _ hi]
 have h:=ord_idx i hi l.length hl
 by_cases h1:ord.idxOf i=l.length
 ·rw [if_pos (h.1 h1),h1]
  simp [List.getD]
 ·rw [if_neg (fun e=>h1 (h.2 e))]
  simp only [List.getD_eq_getElem?_getD,List.getElem?_append]
  split
  ·rfl
  ·rename_i h2
   rw [List.getElem?_eq_none (by omega:l.length≤_)]
   rw [List.getElem?_eq_none (by simp;omega)]
theorem ownOf_nil:(ia 19 fun j=>(ownOf []).getD j 0)=va (19*1) fun i=>(Value.int .i64 0).cells[i%(Value.int .i64 0).cells.size]! := by
 refine va_congr fun i hi=>?_
 show Value.int .i64 (((ownOf []).getD i 0:Nat):Int)=_
 rw [ownOf_at _ _ (by omega)]
 simp [Value.cells,Nat.mod_one]
theorem ownOf_small {o:List Nat} (h:∀ x∈o,x<8):∀ x∈ownOf o,x≤15:=by
 intro x hx
 simp [ownOf] at hx
 obtain ⟨j,_,rfl⟩:=hx
 cases hj:o[ord.idxOf j]? with
 | none=>simp
 | some y=>have:=h y (List.mem_of_getElem? hj);simp;omega
theorem enter52 (A:Array Value) (w:World):(callFunc 117 A).run Tryz.prog w = .ok (.enter 117 A) w:=by kernel_rfl
theorem step_panics {ops:Array Oper} {o:Oper} {a:Act} {w:World} {K:Act→World→Prop} {Q:Exit→Act→World→Prop} {E:Prop} (hw:Region.wanted o (yielded ops a.tmps)=true) (f:FuncId) (args:Array Value)
  (hr:(execOp a.eval o).run Tryz.prog w = .ok (.enter f args) w) (hc:Calls Tryz.prog f args w fun e w'=>∃ ch,e = .panicked ch∧Q (.panic ch) a w') :
  if Region.wanted o (yielded ops a.tmps)=true then Oper.wp Tryz.prog o a w K Q else E:=by
 rw [if_pos hw]
 unfold Oper.wp
 rw [hr]
 exact hc.mono (by rintro e w' ⟨ch,rfl,hR⟩;exact hR)
section
variable {B K p pb:Nat} {g:Option Nat} {bs:List Nat} {lim:Nat} {w:World} {ov:Value} {s:Sta}
def OC (B K p pb:Nat) (g:Option Nat) (bs:List Nat) (lim:Nat) (w:World) (ov:Value) (r:Res (List Nat)) (e:Ending) (w':World):Prop:=
 match r with
 | .bad er=>RBad p pb w ov er e w'
 | .ok o s=>∃ pc,e = .returned (.pointer (some ⟨pc,0,none⟩))∧CodeAt w' pc (ownOf o)∧∃ ov',RS B K p pb g bs lim w' ov' s∧Mv p pb w ov w' ov'
theorem OC.bad {R:Res (List Nat)} {er:Nat} {w':World} (e:R = .bad er) (ht:Touch (FT p pb ov) w w'):OC B K p pb g bs lim w ov R (pan er) w':=by
 subst e;exact ⟨rfl,ht⟩
def ownR (bs:List Nat) (n:Nat) (s:Sta):Res (List Nat):=(rdO bs n [] s).bind fun o s4=>if room (ownOf o)≠32768 then .bad 10 else .ok o s4
structure Ox (B K p pb:Nat) (g:Option Nat) (bs:List Nat) (lim:Nat) (w:World) (ov:Value) (q:Nat) (l:List Nat) (wr:World) (ov':Value) (s':Sta):Prop where
 rs:RS B K p pb g bs lim wr ov' s'
 mv:Mv p pb w ov wr ov'
 row:Blk wr q 3 (ia 19 fun j=>(ownOf l).getD j 0)
 tab:Tab wr
set_option maxHeartbeats 3200000 in
theorem ownCode_any {n:Nat} (hK:K≤w.heap.size) (hB:3<B) (hT:Tab w) (h:RS B K p pb g bs lim w ov s) (hn:n≤19) :
  Calls Tryz.prog 156 #[.pointer (some ⟨p,0,none⟩),.int .i64 n] w (OC B K p pb g bs lim w ov (ownR bs n s)):=by
 obtain ⟨R,hR⟩:∃ R,R=ownR bs n s:=⟨_,rfl⟩
 rw [←hR]
 unfold ownR at hR
 obtain ⟨R0,hR0⟩:∃ R0,R0=rdO bs n [] s:=⟨_,rfl⟩
 rw [←hR0] at hR
 have HR:=Lib.hid hR
 have HR0:Hid (rdO bs (n-([]:List Nat).length) [] s=R0∧∀ x∈([]:List Nat),x<8):=Lib.hid ⟨hR0.symm,fun x hx=>by simp at hx⟩
 obtain ⟨q,hq⟩:∃ q,q=w.heap.size:=⟨_,rfl⟩
 have HQ:=Lib.hid hq
 have H:=Lib.hid h
 have HK:=Lib.hid hK
 have HT:=Lib.hid hT
 have HW0:=Lib.hid hT.pos
 have HBp:=Lib.hid hB
 clear hR hR0 h hT hq hK hB
 go_enter Tryz.func156,Tryz.ntmps156
 go_wp2_with (refine wpList_make_z rfl 88 (.const (.int .i64 19)) (.const (.int .i64 19)) rfl 3 (.int .i64 0) 1 8 19 Tryz.underlying88 (by kernel_rfl) .i64 .i64 _ _ rfl rfl rfl rfl (by omega) (by omega) ?_;intro W1 hb1 ht1 hs1;rw [←ownOf_nil,←HQ.out] at hb1;rw [←HQ.out];have HW1:=Lib.hid hb1;have HT1:=Lib.hid ht1;clear hb1 ht1 hs1)
 have HX0:Hid (Ox B K p pb g bs lim w ov q [] W1 ov s):=Lib.hid (by
  have hb:Below w.heap.size w W1:=HT1.out.below (Nat.le_refl _) fun _ h=>h.elim
  obtain ⟨h2,m2⟩:=H.out.grow hb
  exact ⟨h2,m2,HW1.out,HT.out.below hb⟩)
 clear HW1 HT1 H HT
 go_loopw [6,10] (fun _ iv' wr=>∃ (l:List Nat) (s':Sta) (ov':Value),l.length≤n∧iv' = .int .i64 l.length∧Hid (rdO bs (n-l.length) l s'=R0∧∀ x∈l,x<8)∧Ox B K p pb g bs lim w ov q l wr ov' s') (fun _ iv' _=>n-(intOf iv').toNat)
 case atStart=>exact ⟨[],s,ov,Nat.zero_le _,rfl,HR0,HX0.out⟩
 case round=>
  clear HX0 HR0
  obtain ⟨l,s1,ov1,hl,rfl,HS,hx⟩:=hrel
  have HX:=Lib.hid hx
  clear hx
  by_cases hlt:l.length<n
  ·obtain ⟨i,hi⟩:∃ i,i=l.length:=⟨_,rfl⟩
   have hi19:i<19:=by omega
   obtain ⟨o,ho⟩:∃ o,o=ord.getD i 0:=⟨_,rfl⟩
   have ho19:o<19:=by rw [ho];exact ord_lt i hi19
   have t0:=HX.out.tab i hi19
   rw [←ho] at t0
   have hD:=HX.out.rs.drewN 1
   have hN:=number_any hD.1 3 (by omega)
   have hS:=HS.out.1
   rw [show n-l.length=(n-l.length-1)+1 by omega,rdO] at hS
   have HO:=Lib.hid (And.intro hi ho)
   cases hr:rdN bs 3 s1 with
   | bad er=>
    rw [hr] at hN hS
    have HN:Hid (Calls Tryz.prog 117 #[.pointer (some ⟨p,0,none⟩),.int .i64 3] wr.drew (RBad p pb wr.drew ov1 er)):=Lib.hid hN
    have FIN:Hid (∀ w2,RBad p pb wr.drew ov1 er (pan er) w2→OC B K p pb g bs lim w ov R (pan er) w2):=Lib.hid fun w2 h2=>by
     refine OC.bad ?_ ((HX.out.mv.trans hD.2).bad h2.2)
     rw [HR.out,←hS]
     rfl
    have hin:(i:Int)<n:=by omega
    have hi0:(0:Int)≤i:=by omega
    have hi9:(i:Int)<19:=by omega
    clear hN hS hr hD ho
    rw [←hi]
    clear hi hlt hl
    go_wp2
    refine wp_region_held_drew (S:=fun W=>W.cell? ⟨3,i,none⟩=some (.int .i64 (o:Nat))) (by kernel_rfl) t0 (fun hHeld=>?_)
    refine wpAnyH_take (i:=0) (v := .slice (some ⟨q,0,none⟩) 19 19) (oi:={ dst:=some 13,op:=Op.move (Operand.tmp 5),type:=88,pos := "inflate.go:217",after := #[],guard:=none }) rfl (by kernel_rfl) (by kernel_rfl) (by kernel_rfl) (fun _ _ _ h=>h) (Or.inl ⟨by rfl,fun W hSw=>by go_simp⟩) hHeld ?_
    try simp only [Act.put,List.setIfInBounds_toArray,List.set_cons_zero,List.set_cons_succ]
    refine wpAnyH_take (i:=1) (v := .int .i64 i) (oi:={ dst:=some 14,op:=Op.move (Operand.tmp 6),type:=3,pos := "inflate.go:217",after := #[],guard:=none }) rfl (by kernel_rfl) (by kernel_rfl) (by kernel_rfl) (fun _ _ _ h=>h) (Or.inl ⟨by rfl,fun W hSw=>by go_simp⟩) hHeld ?_
    try simp only [Act.put,List.setIfInBounds_toArray,List.set_cons_zero,List.set_cons_succ]
    refine wpAnyH_take (i:=2) (v := .pointer (some ⟨3,i,none⟩)) (oi:={ dst:=some 15,op:=Op.indexAddr 232 (Operand.global 3) (Operand.tmp 14),type:=0,pos := "inflate.go:217",after := #[{ on:=1,ground:=Ground.data }],guard:=none }) rfl (by kernel_rfl) (by kernel_rfl) (by kernel_rfl) (fun _ _ _ h=>h) (Or.inl ⟨by rfl,fun W hSw=>by go_simp⟩) hHeld ?_
    try simp only [Act.put,List.setIfInBounds_toArray,List.set_cons_zero,List.set_cons_succ]
    refine wpAnyH_take (i:=3) (v := .int .i64 (o:Nat)) (oi:={ dst:=some 16,op:=Op.load 3 (Operand.tmp 15),type:=3,pos := "inflate.go:217",after := #[{ on:=2,ground:=Ground.data }],guard:=none }) rfl (by kernel_rfl) (by kernel_rfl) (by kernel_rfl) (fun _ _ _ h=>h) (Or.inl ⟨by rfl,fun W hSw=>by go_simp⟩) hHeld ?_
    try simp only [Act.put,List.setIfInBounds_toArray,List.set_cons_zero,List.set_cons_succ]
    refine wpAnyH_take (i:=4) (v := .pointer (some ⟨p,0,none⟩)) (oi:={ dst:=some 17,op:=Op.move (Operand.tmp 0),type:=163,pos := "inflate.go:217",after := #[],guard:=none }) rfl (by kernel_rfl) (by kernel_rfl) (by kernel_rfl) (fun _ _ _ h=>h) (Or.inl ⟨by rfl,fun W hSw=>by go_simp⟩) hHeld ?_
    try simp only [Act.put,List.setIfInBounds_toArray,List.set_cons_zero,List.set_cons_succ]
    refine wpAnyH_ready (rs:=[5]) (by kernel_rfl) (by simp) ?_
    refine AllReadyH.cons (o:={ dst:=some 18,op:=Op.call { callee:=Callee.value (Operand.func 117),args := #[Operand.tmp 17,Operand.const (Value.int IntKind.i64 3)],argTypes := #[163,3] },type:=3,pos := "inflate.go:217",after := #[{ on:=4,ground:=Ground.data }],guard:=none }) rfl (fun K hK=>?_) AllReadyH.nil
    refine step_panics (by rfl) _ _ (Z.run_call2 (.func 117) (.tmp 17) (.const (.int .i64 3)) _ 117 #[] (.pointer (some ⟨p,0,none⟩)) (.int .i64 3) (fun _=>enter52 _ _) rfl rfl rfl rfl) ?_
    refine HN.out.mono ?_
    rintro e w2 ⟨rfl,ht⟩
    exact ⟨_,rfl,rfl,FIN.out _ ⟨rfl,ht⟩⟩
   | ok v s2=>
    rw [hr] at hN hS
    rw [Res.bind_ok] at hS
    have HN:Hid (Calls Tryz.prog 117 #[.pointer (some ⟨p,0,none⟩),.int .i64 3] wr.drew (ROk B K p pb g bs lim wr.drew ov1 (.int .i64 (v:Nat)) s2)):=Lib.hid hN
    have HV8:Hid (∀ x∈l++[v],x<8):=Lib.hid fun x hx=>by
     rcases List.mem_append.1 hx with hx | hx
     ·exact HS.out.2 x hx
     ·rw [List.mem_singleton.1 hx];exact rdN_lt hr
    have HS1:=Lib.hid hS
    have hq0:=hD.1
    have hB0:=HBp.out
    have AFT:Hid (∀ w2 ov2,RS B K p pb g bs lim w2 ov2 s2→Mv p pb wr.drew ov1 w2 ov2→
      w2.cell? ⟨3,i,none⟩=some (.int .i64 (o:Nat))∧w2.frozen? ⟨q,o,none⟩=false∧w2.cell? ⟨q,o,none⟩=some (.int .i64 ((ownOf l).getD o 0:Nat))∧Hid (Ox B K p pb g bs lim w ov q (l++[v]) (w2.setCell ⟨q,o,none⟩ (.int .i64 (v:Nat))) ov2 s2)):=Lib.hid fun w2 ov2 h2 m2=>by
     have hrow:Blk wr.drew q 3 (ia 19 fun j=>(ownOf l).getD j 0):=HX.out.row
     have hr2:=hrow.safe m2.touch hq0.safe (by decide)
     have htab:Tab wr.drew:=HX.out.tab
     have ht2:=htab.touch m2.touch fun h0=>by have:=hq0.base 3 h0;omega
     have hi2:=ht2 i hi19
     rw [←ho] at hi2
     refine ⟨hi2,hr2.free o,(hr2.cell o).trans (va_at 19 _ o ho19),Lib.hid ?_⟩
     have hset:Touch (fun k=>k=q) w2 (w2.setCell ⟨q,o,none⟩ (.int .i64 (v:Nat))):=(Touch.refl _ w2).setCell _ _ (.inl rfl)
     have hqw:w.heap.size≤q:=Nat.le_of_eq HQ.out.symm
     obtain ⟨h3,m3⟩:=item_end h2 ((HX.out.mv.trans hD.2).trans m2) hr2 (.inr ⟨.inl rfl,Nat.le_trans HK.out hqw⟩) hqw hset
     refine ⟨h3,m3,?_,ht2.touch hset fun e=>?_⟩
     ·have:=hr2.setCell o (.int .i64 (v:Nat))
      have h5:=ownOf_set l v (by omega)
      rw [←hi,←ho] at h5
      rwa [h5] at this
     ·have h6:=HW0.out
      have h7:q=3:=e.symm
      have hz:=HQ.out
      omega
    have hin:(i:Int)<n:=by omega
    have ho19':(o:Int)<19:=by omega
    have ho0:(0:Int)≤o:=by omega
    have hi0:(0:Int)≤i:=by omega
    have hi9:(i:Int)<19:=by omega
    clear hN hS hr hD ho hq0 hB0
    rw [←hi]
    clear hi
    go_wp2
    go_region_with (go_at_call 117;(refine HN.out.mono ?_);rintro e w2 ⟨rfl,ov2,h2,m2⟩;obtain ⟨c1,c2,c3,c4⟩:=AFT.out w2 ov2 h2 m2;have C4:=Lib.hid c4;clear h2 m2 c4)
    all_goals
     go_wp2
     go_roundw
     case rel=>
      refine ⟨l++[v],s2,ov2,by simp;omega,?_,?_,C4.out⟩
      ·have:=HO.out.1
       simp only [List.length_append,List.length_singleton]
       rw [←this]
       go_num
      ·have h6:=HS1.out
       have h7:=HO.out.1
       rw [←h6]
       rw [List.length_append,List.length_singleton]
       exact Lib.hid ⟨by congr 1,HV8.out⟩
     case measure=>have:=HO.out.1;simp [intOf];omega
  ·have hge:(n:Int)≤l.length:=by omega
   have hln:l.length=n:=by omega
   have hS:=HS.out.1
   rw [hln,Nat.sub_self] at hS
   have hR1:=HR.out
   rw [←hS] at hR1
   simp only [rdO,Res.bind_ok] at hR1
   have HR1:=Lib.hid hR1
   have HI:Hid (IS wr (some ⟨q,0,none⟩) (zn (ownOf l))):=Lib.hid (blk_is HX.out.row (zn (ownOf l)) (by rw [zn_len,ownOf_len]) fun j _=>zn_at _ _)
   have HV:Hid (Vd (zn (ownOf l))):=Lib.hid ⟨by rw [zn_len,ownOf_len];omega,fun z hz=>by
    unfold zn at hz
    obtain ⟨x,hx,rfl⟩:=List.mem_map.1 hz
    have:=ownOf_small HS.out.2 x hx
    omega⟩
   have HZL:Hid ((zn (ownOf l)).length=19):=Lib.hid (by rw [zn_len,ownOf_len])
   clear hS hR1 hln hlt hl
   go_wp2_with fail
   by_cases hro:room (ownOf l)≤32768
   ·refine (codeOf_yes (some ⟨q,0,none⟩) 19 19 (zn (ownOf l)) _ HI.out HZL.out HV.out (by rw [zn_nat];exact hro)).mono ?_
    rintro e w2 ⟨pc,rfl,hc,hb⟩
    rw [zn_nat] at hc
    have HC2:=Lib.hid (Complete_any pc (ownOf l) w2 hc)
    have HCC:=Lib.hid hc
    have HB:=Lib.hid hb
    by_cases hr2:room (ownOf l)=32768
    ·have hR2:=HR1.out
     rw [if_neg (by simpa using hr2)] at hR2
     have HR2:=Lib.hid hR2
     simp only [hr2,decide_true] at HC2
     clear hR2 hc hb hro hr2
     go_wp2_with (first
      | (go_at_call 172;(refine HC2.out.mono ?_);rintro e w3 ⟨rfl,hb3⟩;have HB3:=Lib.hid hb3;clear hb3)
      | (go_at_call 135;(with_reducible refine (must_yes _ _).mono ?_);rintro e w7 ⟨rfl,rfl⟩))
     go_ret
     obtain ⟨h4,m4⟩:=HX.out.rs.grow HB.out
     obtain ⟨h5,m5⟩:=h4.grow HB3.out
     have hR2:=HR2.out
     subst hR2
     exact ⟨pc,rfl,HCC.out.below HB3.out,ov1,h5,HX.out.mv.trans (m4.trans m5)⟩
    ·have hR2:=HR1.out
     rw [if_pos (by simpa using hr2)] at hR2
     have HR2:=Lib.hid hR2
     simp only [hr2,decide_false] at HC2
     clear hR2 hc hb hro hr2
     go_wp2_with (first
      | (go_at_call 172;(refine HC2.out.mono ?_);rintro e w3 ⟨rfl,hb3⟩;have HB3:=Lib.hid hb3;clear hb3)
      | (go_at_call 135;(refine (must_no 10 _).mono ?_);rintro e w7 ⟨rfl,rfl⟩))
     obtain ⟨h4,m4⟩:=HX.out.rs.grow HB.out
     obtain ⟨h5,m5⟩:=h4.grow HB3.out
     exact ⟨rfl,OC.bad HR2.out (HX.out.mv.trans (m4.trans m5)).touch⟩
   ·have hR2:=HR1.out
    rw [if_pos (by intro e;omega)] at hR2
    have HR2:=Lib.hid hR2
    refine (codeOf_no (some ⟨q,0,none⟩) 19 19 (zn (ownOf l)) _ HI.out HZL.out HV.out (by rw [zn_nat];omega)).mono ?_
    rintro e w2 ⟨rfl,hb⟩
    have HB:=Lib.hid hb
    clear hR2 hro hb
    go_wp2
    obtain ⟨h4,m4⟩:=HX.out.rs.grow HB.out
    exact ⟨rfl,OC.bad HR2.out (HX.out.mv.trans m4).touch⟩
end
theorem is_take {w:World} {ao:Option Addr} {zs:List Int} (h:IS w ao zs) (k:Nat):IS w ao (zs.take k):=by
 rcases h with rfl | ⟨b,off,rfl,hc⟩
 ·exact .inl (by simp)
 ·refine .inr ⟨b,off,rfl,fun j hj=>?_⟩
  rw [List.length_take] at hj
  rw [hc j (by omega)]
  simp only [List.getD_eq_getElem?_getD]
  rw [List.getElem?_take_of_lt (by omega)]
theorem is_drop {w:World} {b off:Nat} {zs:List Int} (h:IS w (some ⟨b,off,none⟩) zs) (k:Nat):IS w (some ⟨b,off+k,none⟩) (zs.drop k):=by
 rcases h with rfl | ⟨b',off',he,hc⟩
 ·exact .inl (by simp)
 ·simp only [Option.some.injEq,Addr.mk.injEq,and_true] at he
  obtain ⟨rfl,rfl⟩:=he
  refine .inr ⟨b,off+k,rfl,fun j hj=>?_⟩
  rw [List.length_drop] at hj
  rw [Nat.add_assoc,hc (k+j) (by omega)]
  simp only [List.getD_eq_getElem?_getD,List.getElem?_drop]
theorem zn_take (l:List Nat) (k:Nat):(zn l).take k=zn (l.take k):=by simp [zn]
theorem zn_drop (l:List Nat) (k:Nat):(zn l).drop k=zn (l.drop k):=by simp [zn]
theorem zn_vd {l:List Nat} (h:∀ x∈l,x≤15) (hl:l.length≤320):Vd (zn l):=⟨by rw [zn_len];exact hl,fun z hz=>by
 unfold zn at hz
 obtain ⟨x,hx,rfl⟩:=List.mem_map.1 hz
 have:=h x hx
 omega⟩
theorem isFull_zn (p:Nat) (ao:Option Addr) (c n:Nat) (ls:List Nat) (w:World) (h:CodeAt w p ls) (hi:IS w ao (zn ls)) (hl:(zn ls).length=n) (hv:Vd (zn ls)) :
  Calls Tryz.prog 158 #[.pointer (some ⟨p,0,none⟩),.slice ao n c] w fun e w'=>e = .returned (.bool (whole ls))∧Below w.heap.size w w':=by
 have:=isFull_any p ao c n (zn ls) w (by rw [zn_nat];exact h) hi hl hv
 rw [zn_nat] at this
 exact this
section
variable {B K p pb:Nat} {g:Option Nat} {bs:List Nat} {lim:Nat} {w:World} {ov:Value} {s:Sta}
def CD (B K p pb:Nat) (g:Option Nat) (bs:List Nat) (lim:Nat) (w:World) (ov:Value) (r:Res (List Nat × List Nat)) (e:Ending) (w':World):Prop:=
 match r with
 | .bad er=>RBad p pb w ov er e w'
 | .ok c s=>∃ p1 p2,e = .returned (.agg #[.pointer (some ⟨p1,0,none⟩),.pointer (some ⟨p2,0,none⟩)])∧CodeAt w' p1 c.1∧CodeAt w' p2 c.2∧∃ ov',RS B K p pb g bs lim w' ov' s∧Mv p pb w ov w' ov'
theorem CD.bad {R:Res (List Nat × List Nat)} {er:Nat} {w':World} (e:R = .bad er) (ht:Touch (FT p pb ov) w w'):CD B K p pb g bs lim w ov R (pan er) w':=by
 subst e;exact ⟨rfl,ht⟩
structure Tx (B K p pb:Nat) (g:Option Nat) (bs:List Nat) (lim:Nat) (w:World) (ov:Value) (r:Nat) (wr:World) (ov':Value) (s':Sta):Prop where
 rs:RS B K p pb g bs lim wr ov' s'
 mv:Mv p pb w ov wr ov'
 tab:Tab wr
 res:Blk wr r 203 #[.pointer none,.pointer none]
 hB:3<B
 hK:K≤wr.heap.size
theorem Tx.on {r:Nat} {wr w2:World} {ov' ov2:Value} {s' s2:Sta} (h:Tx B K p pb g bs lim w ov r wr ov' s') (k:RS B K p pb g bs lim w2 ov2 s2) (m:Mv p pb wr ov' w2 ov2):Tx B K p pb g bs lim w ov r w2 ov2 s2:=
 ⟨k,h.mv.trans m,h.tab.touch m.touch fun h0=>by have:=h.rs.base 3 h0;have:=h.hB;omega,h.res.safe m.touch h.rs.safe (by decide),h.hB,Nat.le_trans h.hK m.touch.size⟩
theorem Tx.grow {r:Nat} {wr w2:World} {ov':Value} {s':Sta} (h:Tx B K p pb g bs lim w ov r wr ov' s') (hb:Below wr.heap.size wr w2):Tx B K p pb g bs lim w ov r w2 ov' s':=by
 obtain ⟨k,m⟩:=h.rs.grow hb
 exact h.on k m
set_option maxHeartbeats 6400000 in
theorem toldCodes_any (hK:K≤w.heap.size) (hB:3<B) (hT:Tab w) (h:RS B K p pb g bs lim w ov s) :
  Calls Tryz.prog 139 #[.pointer (some ⟨p,0,none⟩)] w (CD B K p pb g bs lim w ov (codes bs s)):=by
 obtain ⟨R,hR⟩:∃ R,R=codes bs s:=⟨_,rfl⟩
 rw [←hR]
 unfold codes at hR
 have HR:=Lib.hid hR
 clear hR
 obtain ⟨r,hr⟩:∃ r,r=w.heap.size:=⟨_,rfl⟩
 have HRW:=Lib.hid hr
 have HKW:=Lib.hid hK
 have HX0:Hid (Tx B K p pb g bs lim w ov r (w.alloc (.cells #[.pointer none,.pointer none] 203)) ov s):=Lib.hid (by
  have hA:Below w.heap.size w (w.alloc (.cells #[.pointer none,.pointer none] 203)):=(Below.refl _ w).alloc (Nat.le_refl _) _
  obtain ⟨h1,m1⟩:=h.grow hA
  exact ⟨h1,m1,hT.below hA,by rw [hr];exact Blk.made _ _ _,hB,Nat.le_trans hK hA.size⟩)
 obtain ⟨W,hW⟩:∃ W,W=w.alloc (.cells #[.pointer none,.pointer none] 203):=⟨_,rfl⟩
 clear h hT hB hK
 go_enter Tryz.func139,Tryz.ntmps139
 go_wp2_with fail
 rw [←hW] at HX0 ⊢
 rw [←hr]
 clear hr hW
 refine (number_any HX0.out.rs 5 (by omega)).mono ?_
 rintro e w1 h1
 have hR:=HR.out
 cases hr1:rdN bs 5 s with
 | bad er=>
  rw [hr1] at h1 hR
  obtain ⟨rfl,ht⟩:=h1
  have HR1:=Lib.hid hR
  clear hr1 hR
  go_wp2
  exact ⟨rfl,CD.bad HR1.out (HX0.out.mv.bad ht)⟩
 | ok l s1=>
 rw [hr1] at h1
 rw [hr1,Res.bind_ok] at hR
 obtain ⟨rfl,ov1,h1,m1⟩:=h1
 have hl32:l<32:=rdN_lt hr1
 have HX1:=Lib.hid (HX0.out.on h1 m1)
 have HR1:=Lib.hid hR
 clear hr1 hR h1 m1 HX0 HR
 go_wp2_with fail
 refine (number_any HX1.out.rs 5 (by omega)).mono ?_
 rintro e w2 h2
 have hR:=HR1.out
 cases hr2:rdN bs 5 s1 with
 | bad er=>
  rw [hr2] at h2 hR
  obtain ⟨rfl,ht⟩:=h2
  have HR2:=Lib.hid hR
  clear hr2 hR
  go_wp2
  exact ⟨rfl,CD.bad HR2.out (HX1.out.mv.bad ht)⟩
 | ok d s2=>
 rw [hr2] at h2
 rw [hr2,Res.bind_ok] at hR
 obtain ⟨rfl,ov2,h2,m2⟩:=h2
 have hd32:d<32:=rdN_lt hr2
 have HX2:=Lib.hid (HX1.out.on h2 m2)
 have HR2:=Lib.hid hR
 clear hr2 hR h2 m2 HX1 HR1
 go_wp2_with fail
 refine (number_any HX2.out.rs 4 (by omega)).mono ?_
 rintro e w3 h3
 have hR:=HR2.out
 cases hr3:rdN bs 4 s2 with
 | bad er=>
  rw [hr3] at h3 hR
  obtain ⟨rfl,ht⟩:=h3
  have HR3:=Lib.hid hR
  clear hr3 hR
  go_wp2
  exact ⟨rfl,CD.bad HR3.out (HX2.out.mv.bad ht)⟩
 | ok c s3=>
 rw [hr3] at h3
 rw [hr3,Res.bind_ok] at hR
 obtain ⟨rfl,ov3,h3,m3⟩:=h3
 have hc16:c<16:=rdN_lt hr3
 have HX3:=Lib.hid (HX2.out.on h3 m3)
 have HR3:=Lib.hid hR
 clear hr3 hR h3 m3 HX2 HR2
 by_cases hbad:29<l∨29<d
 ·have hR:=HR3.out
  rw [if_pos hbad] at hR
  have HR4:=Lib.hid hR
  clear hR HR3
  by_cases hl:29<l
  ·have e1:decide ((l:Int)≤29)=false:=by simp;omega
   clear hbad hl
   go_wp2_with (go_at_call 135;(refine (must_no 10 _).mono ?_);rintro e w7 ⟨rfl,rfl⟩)
   exact ⟨rfl,CD.bad HR4.out HX3.out.mv.touch⟩
  ·have e1:decide ((l:Int)≤29)=true:=by simp;omega
   have e2:decide ((d:Int)≤29)=false:=by simp;omega
   clear hbad hl
   go_wp2_with (go_at_call 135;(refine (must_no 10 _).mono ?_);rintro e w7 ⟨rfl,rfl⟩)
   exact ⟨rfl,CD.bad HR4.out HX3.out.mv.touch⟩
 have hR:=HR3.out
 rw [if_neg hbad] at hR
 have e1:decide ((l:Int)≤29)=true:=by simp;omega
 have e2:decide ((d:Int)≤29)=true:=by simp;omega
 have hl29:l≤29:=by omega
 have hd29:d≤29:=by omega
 obtain ⟨n4,hn4⟩:∃ n4,n4=4+c:=⟨_,rfl⟩
 have e4:(4:Int)+(c:Int)=(n4:Nat):=by omega
 have hn19:n4≤19:=by omega
 rw [←hn4] at hR
 have HR4:=Lib.hid hR
 clear hR hbad hn4 HR3
 go_wp2_with (go_at_call 135;(with_reducible refine (must_yes _ _).mono ?_);rintro e w7 ⟨rfl,rfl⟩)
 clear e1 e2 e4
 refine (ownCode_any HX3.out.hK HX3.out.hB HX3.out.tab HX3.out.rs hn19).mono ?_
 rintro e w4 h4
 have hR:=HR4.out
 have hown:∀ {β : Type} (k:List Nat→Sta→Res β),((rdO bs n4 [] s3).bind fun o s4=>if room (ownOf o)≠32768 then .bad 10 else k o s4)=(ownR bs n4 s3).bind k:=fun k=>by
  unfold ownR
  cases rdO bs n4 [] s3 with
  | bad e=>rfl
  | ok o s4=>simp only [Res.bind_ok];split <;> rfl
 rw [hown] at hR
 clear hown
 cases hr4:ownR bs n4 s3 with
 | bad er=>
  rw [hr4] at h4 hR
  obtain ⟨rfl,ht⟩:=h4
  have HR5:=Lib.hid hR
  clear hr4 hR
  go_wp2
  exact ⟨rfl,CD.bad HR5.out (HX3.out.mv.bad ht)⟩
 | ok o s4=>
 rw [hr4] at h4
 rw [hr4,Res.bind_ok] at hR
 obtain ⟨pc,rfl,hc4,ov4,h4,m4⟩:=h4
 have HX4:=Lib.hid (HX3.out.on h4 m4)
 have HC4:=Lib.hid hc4
 obtain ⟨A,hA⟩:∃ A,A=257+l:=⟨_,rfl⟩
 obtain ⟨D,hD⟩:∃ D,D=1+d:=⟨_,rfl⟩
 obtain ⟨N,hN⟩:∃ N,N=A+D:=⟨_,rfl⟩
 have hN2:258+l+d=N:=by omega
 have e5:(257:Int)+(l:Int)=(A:Nat):=by omega
 have e6:(A:Int)+1+(d:Int)=(N:Nat):=by omega
 have hA1:257≤A:=by omega
 have hA2:A≤286:=by omega
 have hD1:1≤D:=by omega
 have hD2:D≤30:=by omega
 rw [hN2,←hA] at hR
 have HR5:=Lib.hid hR
 have HN:=Lib.hid hN
 have hN3:N≤320:=by omega
 have hN4:1≤N:=by omega
 have HAD:=Lib.hid (And.intro hA hD)
 clear hr4 hR h4 m4 hc4 HX3 HR4 hN hN2 hA hD
 go_wp2_with fail
 refine (lengths_any HX4.out.hK HX4.out.rs HC4.out (ownOf_len o) hN4 hN3).mono ?_
 rintro e w5 h5
 have hR:=HR5.out
 cases hr5:lens bs (ownOf o) N s4 with
 | bad er=>
  rw [hr5] at h5 hR
  obtain ⟨rfl,ht⟩:=h5
  have HR6:=Lib.hid hR
  clear hr5 hR
  go_wp2
  exact ⟨rfl,CD.bad HR6.out (HX4.out.mv.bad ht)⟩
 | ok row s5=>
 rw [hr5] at h5
 rw [hr5,Res.bind_ok] at hR
 obtain ⟨a,c7,rfl,⟨i5,k5⟩,ov5,h5,m5⟩:=h5
 obtain ⟨hlen,hsm⟩:=lens_is (ownOf_len o) HX4.out.rs.in_ hr5
 rw [hlen] at k5 ⊢
 have HX5:=Lib.hid (HX4.out.on h5 m5)
 obtain ⟨b,off,rfl,q0⟩:=i5.at (k:=256) (by rw [zn_len];omega)
 rw [zn_at] at q0
 obtain ⟨x,hx⟩:∃ x,x=row.getD 256 0:=⟨_,rfl⟩
 rw [←hx] at q0 hR
 have HROW:=Lib.hid (And.intro hlen hsm)
 have HI5:=Lib.hid i5
 have HR6:=Lib.hid hR
 have hND:N-A=D:=by have:=HN.out;omega
 have hAN:A<N:=by have:=HN.out;omega
 have hAN':(A:Int)≤N:=by omega
 have hc7:(N:Int)≤c7:=by omega
 have hAc:(A:Int)≤c7:=by omega
 have hne:¬(c7=A):=by omega
 have hx16:x≤15:=by
  rw [hx,List.getD_eq_getElem?_getD,List.getElem?_eq_getElem (by omega)]
  exact hsm _ (List.getElem_mem _)
 have HQ0:=Lib.hid q0
 clear hr5 hR h5 m5 hlen hsm i5 HX4 HR5 HC4 hx q0
 go_wp2_with fail
 go_quiet (fail)
 obtain ⟨h6,m6⟩:=HX5.out.rs.drewN nq
 have HX6:=Lib.hid (HX5.out.on h6 m6)
 have HI6:Hid (IS (w5.drewN nq) (some ⟨b,off,none⟩) (zn row)):=Lib.hid (HI5.out.drewN nq)
 have q6:(w5.drewN nq).cell? ⟨b,off+256,none⟩=some (.int .i64 (x:Nat)):=HQ0.out
 obtain ⟨W6,hW6⟩:∃ W6,W6=w5.drewN nq:=⟨_,rfl⟩
 rw [←hW6] at HX6 HI6 q6 ⊢
 clear h6 m6 HX5 HI5 HQ0 hW6 hND hAN hAN' hc7 hAc hne e5 e6
 have e7:(256:Int)<A:=by omega
 by_cases hx0:x=0
 ·have hR:=HR6.out
  rw [if_pos hx0] at hR
  have HR7:=Lib.hid hR
  have d1:decide ((0:Int)<x)=false:=by simp;omega
  have d2:decide (0<x)=false:=by simp;omega
  clear hR hx0
  go_wp2_with (go_at_call 135;(refine (must_no 10 _).mono ?_);rintro e w7 ⟨rfl,rfl⟩)
  exact ⟨rfl,CD.bad HR7.out HX6.out.mv.touch⟩
 have hR:=HR6.out
 rw [if_neg hx0] at hR
 have HR7:=Lib.hid hR
 have d1:decide ((0:Int)<x)=true:=by simp;omega
 have d2:decide (0<x)=true:=by simp;omega
 obtain ⟨fl,hfl⟩:∃ fl,fl=row.take A:=⟨_,rfl⟩
 obtain ⟨ol,hol⟩:∃ ol,ol=row.drop A:=⟨_,rfl⟩
 have HFO:=Lib.hid (And.intro hfl hol)
 have HI1:Hid (IS W6 (some ⟨b,off,none⟩) (zn fl)):=Lib.hid (by rw [hfl,←zn_take];exact is_take HI6.out A)
 have HI2:Hid (IS W6 (some ⟨b,off+A,none⟩) (zn ol)):=Lib.hid (by rw [hol,←zn_drop];exact is_drop HI6.out A)
 have HL1:Hid ((zn fl).length=A):=Lib.hid (by rw [zn_len,hfl,List.length_take,HROW.out.1];have:=HN.out;omega)
 have HL2:Hid ((zn ol).length=D):=Lib.hid (by rw [zn_len,hol,List.length_drop,HROW.out.1];have:=HN.out;omega)
 have HV1:Hid (Vd (zn fl)):=Lib.hid (zn_vd (fun y hy=>HROW.out.2 y (by rw [hfl] at hy;exact List.mem_of_mem_take hy)) (by have:=HL1.out;rw [zn_len] at this;omega))
 have HV2:Hid (Vd (zn ol)):=Lib.hid (zn_vd (fun y hy=>HROW.out.2 y (by rw [hol] at hy;exact List.mem_of_mem_drop hy)) (by have:=HL2.out;rw [zn_len] at this;omega))
 have HFIT:Hid (fits row A=(decide (room fl≤32768∧room ol≤32768) && whole fl && (whole ol || decide (many ol=0)))):=Lib.hid (by rw [hfl,hol];rfl)
 clear hR hx0 hfl hol HI6 HR6
 go_wp2_with (go_at_call 135;(with_reducible refine (must_yes _ _).mono ?_);rintro e w7 ⟨rfl,rfl⟩)
 clear d1 d2 q6 e7
 by_cases c1':32768<room fl
 ·have c1:¬room fl≤32768:=by omega
  have HR8:Hid (R = .bad 10):=Lib.hid (by have:=HR7.out;rw [HFIT.out] at this;rw [this,if_neg (by simp [c1])])
  refine (codeOf_no (some ⟨b,off,none⟩) c7 A (zn fl) _ HI1.out HL1.out HV1.out (by rw [zn_nat];omega)).mono ?_
  rintro e w7 ⟨rfl,hb⟩
  have HX7:=Lib.hid (HX6.out.grow hb)
  clear c1 c1' hb
  go_wp2
  exact ⟨rfl,CD.bad HR8.out HX7.out.mv.touch⟩
 have c1:room fl≤32768:=by omega
 refine (codeOf_yes (some ⟨b,off,none⟩) c7 A (zn fl) _ HI1.out HL1.out HV1.out (by rw [zn_nat];exact c1)).mono ?_
 rintro e w7 ⟨p1,rfl,hc1,hb⟩
 rw [zn_nat] at hc1
 have HX7:=Lib.hid (HX6.out.grow hb)
 have HC1:=Lib.hid hc1
 have HJ1:=Lib.hid (HI1.out.below hb)
 have HJ2:=Lib.hid (HI2.out.below hb)
 clear hc1 hb HI1 HI2 HX6
 go_wp2_with fail
 by_cases c2':32768<room ol
 ·have c2:¬room ol≤32768:=by omega
  have HR8:Hid (R = .bad 10):=Lib.hid (by have:=HR7.out;rw [HFIT.out] at this;rw [this,if_neg (by simp [c2])])
  refine (codeOf_no (some ⟨b,off+A,none⟩) (c7-A) D (zn ol) _ HJ2.out HL2.out HV2.out (by rw [zn_nat];omega)).mono ?_
  rintro e w8 ⟨rfl,hb⟩
  have HX8:=Lib.hid (HX7.out.grow hb)
  clear c1 c2 c1' c2' hb
  go_wp2
  exact ⟨rfl,CD.bad HR8.out HX8.out.mv.touch⟩
 have c2:room ol≤32768:=by omega
 refine (codeOf_yes (some ⟨b,off+A,none⟩) (c7-A) D (zn ol) _ HJ2.out HL2.out HV2.out (by rw [zn_nat];exact c2)).mono ?_
 rintro e w8 ⟨p2,rfl,hc2,hb⟩
 rw [zn_nat] at hc2
 have hA8:Below w8.heap.size w8 (w8.alloc (.cells #[.pointer (some ⟨p1,0,none⟩),.pointer (some ⟨p2,0,none⟩)] 203)):=(Below.refl _ w8).alloc (Nat.le_refl _) _
 have HX8:=Lib.hid ((HX7.out.grow hb).grow hA8)
 have HD1:=Lib.hid ((HC1.out.below hb).below hA8)
 have HD2:=Lib.hid (hc2.below hA8)
 have HK1:=Lib.hid ((HJ1.out.below hb).below hA8)
 have HK2:=Lib.hid ((HJ2.out.below hb).below hA8)
 have HQ:Hid (Blk (w8.alloc (.cells #[.pointer (some ⟨p1,0,none⟩),.pointer (some ⟨p2,0,none⟩)] 203)) w8.heap.size 203 #[.pointer (some ⟨p1,0,none⟩),.pointer (some ⟨p2,0,none⟩)]):=Lib.hid (Blk.made _ _ _)
 have HCC:Hid (room fl≤32768∧room ol≤32768):=Lib.hid ⟨c1,c2⟩
 clear hc2 hb hA8 HX7 HC1 HJ1 HJ2 c1 c2 c1' c2'
 go_wp2_with fail
 obtain ⟨q,hq⟩:∃ q,q=w8.heap.size:=⟨_,rfl⟩
 obtain ⟨W8,hW8⟩:∃ W8,W8=w8.alloc (.cells #[.pointer (some ⟨p1,0,none⟩),.pointer (some ⟨p2,0,none⟩)] 203):=⟨_,rfl⟩
 rw [←hW8,←hq] at HQ ⊢
 rw [←hW8] at HX8 HD1 HD2 HK1 HK2
 clear hq hW8
 refine (isFull_zn p1 (some ⟨b,off,none⟩) c7 A fl _ HD1.out HK1.out HL1.out HV1.out).mono ?_
 rintro e w9 ⟨rfl,hb⟩
 have HX9:=Lib.hid (HX8.out.grow hb)
 have HE1:=Lib.hid (HD1.out.below hb)
 have HE2:=Lib.hid (HD2.out.below hb)
 have HK9:=Lib.hid (HK2.out.below hb)
 have HQ9:=Lib.hid (HQ.out.below hb)
 have q1:=(HQ.out.below hb).cell 1
 have q0:=(HQ.out.below hb).cell 0
 clear hb HX8 HD1 HD2 HK1 HK2 HQ
 have hBool:∀ x:Bool,x=true∨x=false:=fun x=>by cases x <;> simp
 obtain ⟨y1,hy1⟩:∃ y1,y1=whole fl:=⟨_,rfl⟩
 rw [←hy1]
 have HY1:=Lib.hid hy1
 clear hy1
 rcases hBool y1 with rfl | rfl
 ·go_wp2_with (go_at_call 135;(with_reducible refine (must_yes _ _).mono ?_);rintro e w7 ⟨rfl,rfl⟩)
  refine (isFull_zn p2 (some ⟨b,off+A,none⟩) (c7-A) D ol _ HE2.out HK9.out HL2.out HV2.out).mono ?_
  rintro e w10 ⟨rfl,hb⟩
  have HX10:=Lib.hid (HX9.out.grow hb)
  have HF1:=Lib.hid (HE1.out.below hb)
  have HF2:=Lib.hid (HE2.out.below hb)
  have HQ10:=Lib.hid (HQ9.out.below hb)
  have t0:=(HQ9.out.below hb).cell 0
  have t1:=(HQ9.out.below hb).cell 1
  have r0:=HX10.out.res.cell 0
  have r1:=HX10.out.res.cell 1
  have g0:=HX10.out.res.free 0
  have g1:=HX10.out.res.free 1
  clear hb HX9 HE1 HE2 HK9 q0 q1 hBool
  have FIN:Hid (R = .ok (fl,ol) s5→CD B K p pb g bs lim w ov R (.returned (.agg #[.pointer (some ⟨p1,0,none⟩),.pointer (some ⟨p2,0,none⟩)])) ((w10.setCell ⟨r,0,none⟩ (.pointer (some ⟨p1,0,none⟩))).setCell ⟨r,1,none⟩ (.pointer (some ⟨p2,0,none⟩)))):=Lib.hid fun hRe=>by
   have hts:Touch (fun k=>k=r) w10 ((w10.setCell ⟨r,0,none⟩ (.pointer (some ⟨p1,0,none⟩))).setCell ⟨r,1,none⟩ (.pointer (some ⟨p2,0,none⟩))):=((Touch.refl (fun k=>k=r) w10).setCell ⟨r,0,none⟩ _ (.inl rfl)).setCell ⟨r,1,none⟩ _ (.inl rfl)
   have hrw:w.heap.size≤r:=Nat.le_of_eq HRW.out.symm
   obtain ⟨f1,f2⟩:=item_end HX10.out.rs HX10.out.mv HX10.out.res (.inr ⟨.inr rfl,Nat.le_trans HKW.out hrw⟩) hrw hts
   have a1:=HF1.out.in_.aside HX10.out.res hts ⟨by decide,by decide,fun h=>absurd h (by decide)⟩
   have a2:=HF2.out.in_.aside HX10.out.res hts ⟨by decide,by decide,fun h=>absurd h (by decide)⟩
   subst hRe
   exact ⟨p1,p2,rfl,a1.at_,a2.at_,ov5,f1,f2⟩
  obtain ⟨y2,hy2⟩:∃ y2,y2=whole ol:=⟨_,rfl⟩
  rw [←hy2]
  have HY2:=Lib.hid hy2
  clear hy2
  have hBool:∀ x:Bool,x=true∨x=false:=fun x=>by cases x <;> simp
  rcases hBool y2 with rfl | rfl
  ·have HRE:Hid (R = .ok (fl,ol) s5):=Lib.hid (by
    have:=HR7.out
    rw [HFIT.out,←HY1.out,←HY2.out,←HFO.out.1,←HFO.out.2] at this
    rw [this,if_pos (by simp [HCC.out.1,HCC.out.2])])
   clear hBool
   go_wp2_with (go_at_call 135;(with_reducible refine (must_yes _ _).mono ?_);rintro e w7 ⟨rfl,rfl⟩)
   refine bodyPost_ret (v := .agg #[.pointer (some ⟨p1,0,none⟩),.pointer (some ⟨p2,0,none⟩)]) (by simp [results,Tryz.results139,go_sem,r0,r1]) rfl ?_
   exact FIN.out HRE.out
  ·have hS:=Symbols_any p2 ol w10 HF2.out
   obtain ⟨m,hm⟩:∃ m,m=many ol:=⟨_,rfl⟩
   rw [←hm] at hS
   have HS:=Lib.hid hS
   have HM:=Lib.hid hm
   clear hm hS hBool
   by_cases hm0:m=0
   ·have d1:((m:Int) == 0)=true:=by simp [hm0]
    have HRE:Hid (R = .ok (fl,ol) s5):=Lib.hid (by
     have:=HR7.out
     rw [HFIT.out,←HY1.out,←HY2.out,←HFO.out.1,←HFO.out.2,←HM.out] at this
     rw [this,if_pos (by simp [HCC.out.1,HCC.out.2,hm0])])
    clear hm0
    go_wp2_with (first
     | (go_at_call 159;(refine HS.out.mono ?_);rintro e w7 ⟨rfl,rfl⟩)
     | (go_at_call 135;(with_reducible refine (must_yes _ _).mono ?_);rintro e w7 ⟨rfl,rfl⟩))
    refine bodyPost_ret (v := .agg #[.pointer (some ⟨p1,0,none⟩),.pointer (some ⟨p2,0,none⟩)]) (by simp [results,Tryz.results139,go_sem,r0,r1]) rfl ?_
    exact FIN.out HRE.out
   ·have d1:((m:Int) == 0)=false:=by simp;omega
    have HRE:Hid (R = .bad 10):=Lib.hid (by
     have:=HR7.out
     rw [HFIT.out,←HY2.out,←HM.out] at this
     rw [this,if_neg (by simp [hm0])])
    clear hm0
    go_wp2_with (first
     | (go_at_call 159;(refine HS.out.mono ?_);rintro e w7 ⟨rfl,rfl⟩)
     | (go_at_call 135;(refine (must_no 10 _).mono ?_);rintro e w7 ⟨rfl,rfl⟩))
    exact ⟨rfl,CD.bad HRE.out HX10.out.mv.touch⟩
 ·have HRE:Hid (R = .bad 10):=Lib.hid (by
   have:=HR7.out
   rw [HFIT.out,←HY1.out] at this
   rw [this,if_neg (by simp)])
  clear hBool
  go_wp2_with (go_at_call 135;(refine (must_no 10 _).mono ?_);rintro e w7 ⟨rfl,rfl⟩)
  exact ⟨rfl,CD.bad HRE.out HX9.out.mv.touch⟩
end
end
section
variable {bs b':List Nat} {lim:Nat} {α β : Type}
structure Cu (b' bs:List Nat):Prop where
 is_:b'=bs.take b'.length
 byt:Bs bs
end
section
open Go.RowKit
section
variable {B K p pb:Nat} {g:Option Nat} {bs:List Nat} {lim:Nat} {w:World} {ov:Value} {s:Sta}
def BT (B p pb:Nat) (g:Option Nat) (bs:List Nat) (lim:Nat) (w:World) (ov:Value) (r:Res Unit) (e:Ending) (w':World):Prop:=
 match r with
 | .bad er=>RBad p pb w ov er e w'
 | .ok _ s=>e = .returned (.tuple #[])∧∃ K' ov',K'≤w'.heap.size∧RS B K' p pb g bs lim w' ov' s∧Mv p pb w ov w' ov'
theorem BT.bad {R:Res Unit} {er:Nat} {w':World} (e:R = .bad er) (ht:Touch (FT p pb ov) w w'):BT B p pb g bs lim w ov R (pan er) w':=by
 subst e;exact ⟨rfl,ht⟩
theorem BT.of {R:Res Unit} {w1 w':World} {ov1:Value} {e:Ending} (hK:K≤w1.heap.size) (m:Mv p pb w ov w1 ov1) (h:RTo B K p pb g bs lim w1 ov1 uv R e w'):(∃ er,e=pan er∧BT B p pb g bs lim w ov R (pan er) w')∨(e = .returned (.tuple #[])∧BT B p pb g bs lim w ov R (.returned (.tuple #[])) w'):=by
 cases R with
 | bad er=>
  obtain ⟨rfl,ht⟩:=h
  exact .inl ⟨er,rfl,rfl,m.bad ht⟩
 | ok u s1=>
  obtain ⟨rfl,ov2,h2,m2⟩:=h
  exact .inr ⟨rfl,rfl,K,ov2,Nat.le_trans hK m2.touch.size,h2,m.trans m2⟩
set_option maxHeartbeats 3200000 in
theorem block_any (hK:K≤w.heap.size) (hB:3<B) (hT:Tab w) (h:RS B K p pb g bs lim w ov s) :
  Calls Tryz.prog 118 #[.pointer (some ⟨p,0,none⟩)] w (BT B p pb g bs lim w ov (blk bs lim s)):=by
 obtain ⟨R,hR⟩:∃ R,R=blk bs lim s:=⟨_,rfl⟩
 rw [←hR]
 unfold blk at hR
 have HR:=Lib.hid hR
 have H:=Lib.hid h
 have HT:=Lib.hid hT
 have HB:=Lib.hid hB
 have HK:=Lib.hid hK
 clear hR h hT hB hK
 go_enter Tryz.func118,Tryz.ntmps118
 go_wp2_with fail
 refine (number_any H.out 2 (by omega)).mono ?_
 rintro e w1 h1
 have hR:=HR.out
 cases hr1:rdN bs 2 s with
 | bad er=>
  rw [hr1] at h1 hR
  obtain ⟨rfl,ht⟩:=h1
  have HR1:=Lib.hid hR
  clear hr1 hR
  go_wp2
  exact ⟨rfl,BT.bad HR1.out ht⟩
 | ok k s1=>
 rw [hr1] at h1
 rw [hr1,Res.bind_ok] at hR
 obtain ⟨rfl,ov1,h1,m1⟩:=h1
 have hk4:k<4:=rdN_lt hr1
 have HR1:=Lib.hid hR
 have H1:=Lib.hid h1
 have M1:=Lib.hid m1
 have HK1:=Lib.hid (Nat.le_trans HK.out m1.touch.size)
 have HT1:Hid (Tab w1):=Lib.hid (HT.out.touch m1.touch fun h0=>by have:=H.out.base 3 h0;have:=HB.out;omega)
 clear hr1 hR h1 m1 HR
 rcases (by omega:k=0∨k=1∨k=2∨k=3) with rfl | rfl | rfl | rfl
 ·have hR:=HR1.out
  rw [if_pos rfl] at hR
  have HR2:=Lib.hid hR
  clear hR
  go_wp2_with fail
  refine (stored_any H1.out).mono ?_
  rintro e w2 h2
  rw [←HR2.out] at h2
  rcases BT.of HK1.out M1.out h2 with ⟨er,rfl,h3⟩ | ⟨rfl,h3⟩
  ·have H3:=Lib.hid h3
   clear h2 h3
   go_wp2
   exact ⟨rfl,H3.out⟩
  ·have H3:=Lib.hid h3
   clear h2 h3
   go_wp2
   go_end0
   exact H3.out
 ·have hR:=HR1.out
  rw [if_neg (by decide),if_pos rfl] at hR
  have HR2:=Lib.hid hR
  clear hR
  go_wp2_with fail
  refine (fixedCodes_any H1.out HK1.out).mono ?_
  rintro e w2 ⟨p1,p2,rfl,hc1,hc2,⟨K2,hK2,h2⟩,m2⟩
  have HC1:=Lib.hid hc1
  have HC2:=Lib.hid hc2
  have H2:=Lib.hid h2
  have M2:=Lib.hid (M1.out.trans m2)
  have HK2:=Lib.hid hK2
  clear hc1 hc2 h2 m2 hK2
  go_wp2_with fail
  refine (symbols_any H2.out HC1.out HC2.out).mono ?_
  rintro e w3 h3
  rw [←HR2.out] at h3
  rcases BT.of HK2.out M2.out h3 with ⟨er,rfl,h4⟩ | ⟨rfl,h4⟩
  ·have H3:=Lib.hid h4
   clear h3 h4
   go_wp2
   exact ⟨rfl,H3.out⟩
  ·have H3:=Lib.hid h4
   clear h3 h4
   go_wp2
   go_end0
   exact H3.out
 ·have hR:=HR1.out
  rw [if_neg (by decide),if_neg (by decide),if_pos rfl] at hR
  have HR2:=Lib.hid hR
  clear hR
  go_wp2_with fail
  refine (toldCodes_any HK1.out HB.out HT1.out H1.out).mono ?_
  rintro e w2 h2
  have hR:=HR2.out
  cases hr2:codes bs s1 with
  | bad er=>
   rw [hr2] at h2 hR
   obtain ⟨rfl,ht⟩:=h2
   have HR3:=Lib.hid hR
   clear hr2 hR
   go_wp2
   exact ⟨rfl,BT.bad HR3.out (M1.out.bad ht)⟩
  | ok c s2=>
  rw [hr2] at h2
  rw [hr2,Res.bind_ok] at hR
  obtain ⟨p1,p2,rfl,hc1,hc2,ov2,h2,m2⟩:=h2
  have HR3:=Lib.hid hR
  have HC1:=Lib.hid hc1
  have HC2:=Lib.hid hc2
  have H2:=Lib.hid h2
  have M2:=Lib.hid (M1.out.trans m2)
  have HK2:=Lib.hid (Nat.le_trans HK1.out m2.touch.size)
  clear hr2 hR hc1 hc2 h2 m2
  go_wp2_with fail
  refine (symbols_any H2.out HC1.out HC2.out).mono ?_
  rintro e w3 h3
  rw [←HR3.out] at h3
  rcases BT.of HK2.out M2.out h3 with ⟨er,rfl,h4⟩ | ⟨rfl,h4⟩
  ·have H3:=Lib.hid h4
   clear h3 h4
   go_wp2
   exact ⟨rfl,H3.out⟩
  ·have H3:=Lib.hid h4
   clear h3 h4
   go_wp2
   go_end0
   exact H3.out
 ·have hR:=HR1.out
  rw [if_neg (by decide),if_neg (by decide),if_neg (by decide)] at hR
  have HR2:=Lib.hid hR
  clear hR
  go_wp2
  exact ⟨rfl,BT.bad (er:=10) HR2.out M1.out.touch⟩
end
theorem catch_panicking (q:Nat) (er:Nat) (w:World) (x:Int) (hc:w.cell? ⟨q,0,none⟩=some (.int .i64 x)) (hz:w.frozen? ⟨q,0,none⟩=false) :
  CallsD Tryz.prog 116 #[.pointer (some ⟨q,0,none⟩)] (.panicking [{ v := .iface 187 (.int .i64 (er:Nat)),recovered:=false }]) w fun e u' w'=>
   e = .returned (.tuple #[])∧u' = .panicking [{ v := .iface 187 (.int .i64 (er:Nat)),recovered:=true }]∧w'=w.setCell ⟨q,0,none⟩ (.int .i64 (er:Nat)):=by
 refine callsD_of_wpS Tryz.func116 rfl fun c₀ cs hu=>?_
 apply wpS_seq
 apply wpS_region
 simp [wpOpsS,go_sem,recoverD,hu,Tryz.ntmps116,Exit.thenS]
 refine wpS_of_wp ?_
 have hta:∀ W:World,(Instr.typeAssert (.iface 187 (.int .i64 (er:Nat))) 20 187 true).run Tryz.prog W = .ok (.tuple #[.int .i64 (er:Nat),.bool true]) W:=fun _=>by
  kernel_rfl
 simp only [Array.replicate,List.replicate,List.setIfInBounds_toArray,List.append_toArray]
 go_wp2
 simp [bodyPostS,results,Tryz.results116]
theorem catch_idle (q:Nat) (w:World) :
  CallsD Tryz.prog 116 #[.pointer (some ⟨q,0,none⟩)] .returning w fun e u' w'=>
   e = .returned (.tuple #[])∧u' = .returning∧w'=w:=by
 refine callsD_of_wpS Tryz.func116 rfl fun c₀ cs hu=>?_
 apply wpS_seq
 apply wpS_region
 simp [wpOpsS,go_sem,recoverD,hu,Tryz.ntmps116,Exit.thenS]
 refine wpS_of_wp ?_
 have hta:∀ W:World,(Instr.typeAssert .nilIface 20 187 true).run Tryz.prog W = .ok (.tuple #[.int .i64 0,.bool false]) W:=fun _=>by
  kernel_rfl
 simp only [Array.replicate,List.replicate,List.setIfInBounds_toArray,List.append_toArray]
 go_wp2
 simp [bodyPostS,results,Tryz.results116]
 obtain ⟨f,t,td,df,md,kd,rd⟩:=c₀
 simp at hu
 simp [hu]
section
variable {bs:List Nat} {lim:Nat} {α β : Type}
def NZ (L:Nat) (f:Sta→Res α):Prop:=∀ s er,s.at_≤L→f s = .bad er→er≠0
theorem NZ.bind {L:Nat} {f:Sta→Res α} {k : α → Sta→Res β} (h:NZ L f) (hp:Pr L 0 f) (hk:∀ a,NZ L (k a)):NZ L fun s=>(f s).bind k:=by
 intro s er hs hb
 cases hr:f s with
 | bad e=>
  simp only [hr,Res.bind_bad,Res.bad.injEq] at hb
  subst hb
  exact h s e hs hr
 | ok a s1=>
  simp only [hr,Res.bind_ok] at hb
  exact hk a s1 er (hp s a s1 hs hr).end_ hb
theorem NZ.run {L:Nat} {f : α → Sta→Res (Bool × α)} (hf:Takes L f) (h:∀ a,NZ L (f a)) (a : α):NZ L (YthbbpooobaahiaaGreatDoor.run L f a):=by
 have key:∀ n s a er,L-s.at_≤n→s.at_≤L→YthbbpooobaahiaaGreatDoor.run L f a s = .bad er→er≠0:=by
  intro n
  induction n with
  | zero=>
   intro s a er hn hs hr
   rw [run_eq hf a hs] at hr
   cases hx:f a s with
   | bad e=>
    simp only [hx,Res.bind_bad,Res.bad.injEq] at hr
    subst hr
    exact h a s e hs hx
   | ok x s'=>have:=hf a s x s' hs hx;omega
  | succ n ih=>
   intro s a er hn hs hr
   rw [run_eq hf a hs] at hr
   cases hx:f a s with
   | bad e=>
    simp only [hx,Res.bind_bad,Res.bad.injEq] at hr
    subst hr
    exact h a s e hs hx
   | ok x s'=>
    have h3:=hf a s x s' hs hx
    simp only [hx,Res.bind_ok] at hr
    split at hr
    ·cases hr
    ·exact ih s' x.2 er (by omega) h3.2 hr
 intro s er hs hr
 exact key _ s a er (Nat.le_refl _) hs hr
theorem rdN_nz {L:Nat} (n:Nat):NZ L (rdN bs n):=by
 intro s er _ h
 unfold rdN at h
 split at h <;> cases h
 decide
theorem rdS_nz {L:Nat} (ls:List Nat):NZ L (rdS bs ls):=by
 intro s er _ h
 unfold rdS at h
 split at h
 ·cases h;decide
 ·split at h
  ·cases h;decide
  ·split at h <;> cases h
   decide
theorem grown_nz (o:Option (Nat × Nat)):NZ (8*bs.length) (grown bs o):=by
 cases o with
 | none=>intro s er _ h;cases h;decide
 | some x=>exact (rdN_nz x.2).bind (rdN_pr _) fun v s er _ h=>by cases h
theorem again_nz (ol:List Nat) (y:Nat):NZ (8*bs.length) (again bs lim ol y):=by
 refine (grown_nz _).bind (grown_pr _) fun n=>?_
 refine (rdS_nz _).bind (rdS_pr _) fun d=>?_
 refine (grown_nz _).bind (grown_pr _) fun far s er _ h=>?_
 split at h
 ·cases h;decide
 ·split at h <;> cases h
  decide
theorem sym1_nz (fl ol:List Nat) (u:Unit):NZ (8*bs.length) (sym1 bs lim fl ol u):=by
 refine (rdS_nz _).bind (rdS_pr _) fun y s er hs h=>?_
 split at h
 ·split at h <;> cases h
  decide
 ·split at h
  ·cases h
  ·cases hr:again bs lim ol y { s with steps:=s.steps+1 } with
   | bad e=>
    simp only [hr,Res.bind_bad,Res.bad.injEq] at h
    subst h
    exact again_nz ol y { s with steps:=s.steps+1 } e hs hr
   | ok u s2=>simp only [hr,Res.bind_ok] at h;cases h
theorem syms_nz (fl ol:List Nat):NZ (8*bs.length) (syms bs lim fl ol):=NZ.run (sym1_takes fl ol) (sym1_nz fl ol) ()
theorem stored_nz:NZ (8*bs.length) (stored bs lim):=by
 intro s er hs h
 have hk:=((rdN_nz (bs:=bs) (L:=8*bs.length) 16).bind (rdN_pr (lim:=0) 16) (k:=fun n s1=>(rdN bs 16 s1).bind fun m s2=>
  if m≠65535-n then .bad 10 else if 8*bs.length<s2.at_+8*n then .bad 15 else if lim<s2.out.length+n then .bad 14
  else .ok () { s2 with at_:=s2.at_+8*n,out:=s2.out++(bs.drop (s2.at_/8)).take n,steps:=s2.steps+n }) fun n=>by
   refine (rdN_nz 16).bind (rdN_pr 16) fun m s2 er _ h=>?_
   split at h
   ·cases h;decide
   ·split at h
    ·cases h;decide
    ·split at h <;> cases h
     decide)
 exact hk { s with at_:=up8 s.at_ } er (up8_end hs) h
theorem itm_nz (own:List Nat):NZ (8*bs.length) (itm bs own):=by
 refine (rdS_nz _).bind (rdS_pr _) fun y=>?_
 intro s er hs h
 split at h
 ·exact ((rdN_nz (xb y)).bind (rdN_pr _) (k:=fun v s2 => .ok (y,v) s2) fun v s er _ h=>by cases h) s er hs h
 ·cases h
theorem len1_nz (own:List Nat) (n:Nat) (row:List Nat):NZ (8*bs.length) (len1 bs own n row):=by
 refine (itm_nz own).bind (fun s a t hs h=>(itm_le own hs h).2) fun x s er hs h=>?_
 split at h
 ·cases h;decide
 ·split at h <;> cases h
  decide
theorem lens_nz (own:List Nat) (n:Nat):NZ (8*bs.length) (lens bs own n):=NZ.run (len1_takes own n) (len1_nz own n) []
theorem rdO_nz (k:Nat):∀ l,NZ (8*bs.length) (rdO bs k l):=by
 induction k with
 | zero=>intro l s er _ h;cases h
 | succ k ih=>intro l;exact (rdN_nz 3).bind (rdN_pr 3) fun v=>ih _
theorem codes_nz:NZ (8*bs.length) (codes bs):=by
 refine (rdN_nz 5).bind (rdN_pr 5) fun l=>?_
 refine (rdN_nz 5).bind (rdN_pr 5) fun d=>?_
 refine (rdN_nz 4).bind (rdN_pr 4) fun c s er hs h=>?_
 split at h
 ·cases h;decide
 ·refine ((rdO_nz (4+c) []).bind (rdO_pr (4+c) []) fun o s er hs h=>?_) s er hs h
  split at h
  ·cases h;decide
  ·refine ((lens_nz (ownOf o) (258+l+d)).bind (lens_pr (ownOf o) (258+l+d)) fun row s er hs h=>?_) s er hs h
   split at h
   ·cases h;decide
   ·split at h <;> cases h
    decide
theorem blk_nz:NZ (8*bs.length) (blk bs lim):=by
 refine (rdN_nz 2).bind (rdN_pr 2) fun k s er hs h=>?_
 split at h
 ·exact stored_nz s er hs h
 ·split at h
  ·exact syms_nz _ _ s er hs h
  ·split at h
   ·exact (codes_nz.bind codes_pr fun c=>syms_nz c.1 c.2) s er hs h
   ·cases h;decide
theorem blk1_nz (_hb:Bs bs) (u:Unit):NZ (8*bs.length) (blk1 bs lim u):=by
 refine (rdN_nz 1).bind (rdN_pr 1) fun l=>?_
 intro s er hs h
 cases hr:blk bs lim s with
 | bad e=>
  simp only [hr,Res.bind_bad,Res.bad.injEq] at h
  subst h
  exact blk_nz s e hs hr
 | ok u s2=>simp only [hr,Res.bind_ok] at h;cases h
theorem infl_nz (hb:Bs bs) {er:Nat} (h:infl bs lim = .bad er):er≠0:=NZ.run (blk1_takes hb) (blk1_nz hb) () _ er (Nat.zero_le _) h
end
section
variable {B K p pb:Nat} {g:Option Nat} {bs:List Nat} {lim:Nat} {w:World} {ov:Value} {s:Sta}
def rest (bs:List Nat) (lim:Nat) (last:Bool) (s:Sta):Res Unit:=if last then .ok () s else run (8*bs.length) (blk1 bs lim) () s
theorem rest_eq (hb:Bs bs) (hs:s.at_≤8*bs.length):rest bs lim false s=(rdN bs 1 s).bind fun l s1=>(blk bs lim s1).bind fun _ s2=>rest bs lim (decide (l=1)) { s2 with blocks:=s2.blocks+1 }:=by
 unfold rest
 rw [if_neg (by decide),run_eq (blk1_takes hb) () hs]
 unfold blk1
 cases hr:rdN bs 1 s with
 | bad e=>rfl
 | ok l s1=>
  simp only [Res.bind_ok]
  cases hr2:blk bs lim s1 with
  | bad e=>rfl
  | ok u s2=>rfl
structure Bx (B p pb:Nat) (g:Option Nat) (bs:List Nat) (lim:Nat) (w:World) (ov:Value) (q:Nat) (wr:World) (ov':Value) (s':Sta):Prop where
 rs:∃ K,K≤wr.heap.size∧RS B K p pb g bs lim wr ov' s'
 mv:Mv p pb w ov wr ov'
 tab:Tab wr
 err:Blk wr q 30 #[.int .i64 0]
theorem Bx.on {q:Nat} {wr w':World} {ov' ov2:Value} {s' s2:Sta} {K':Nat} (hB:3<B) (h:Bx B p pb g bs lim w ov q wr ov' s') (hK:K'≤w'.heap.size) (k:RS B K' p pb g bs lim w' ov2 s2) (m:Mv p pb wr ov' w' ov2) :
  Bx B p pb g bs lim w ov q w' ov2 s2:=by
 obtain ⟨K0,_,h0⟩:=h.rs
 exact ⟨⟨K',hK,k⟩,h.mv.trans m,h.tab.touch m.touch fun h1=>by have:=h0.base 3 h1;omega,h.err.safe m.touch h0.safe (by decide)⟩
theorem RS.err {q:Nat} {cs:Array Value} (h:RS B K p pb g bs lim w ov s) (hq:Blk w q 30 cs) (x:Value):RS B K p pb g bs lim (w.setCell ⟨q,0,none⟩ x) ov s:=by
 have ht:Touch (fun k=>k=q) w (w.setCell ⟨q,0,none⟩ x):=(Touch.refl _ w).setCell _ _ (.inl rfl)
 have hne:∀ k t cs',Blk w k t cs'→t≠30→k≠q:=by
  rintro k t cs' hk h1 rfl
  rw [Blk,hq] at hk
  simp at hk
  exact h1 hk.2.symm
 obtain ⟨fx,hb,hf⟩:=h.blk
 obtain ⟨sv,ho,hg,hs⟩:=h.ob.blk
 refine ⟨⟨fx,hb.touch ht (hne _ _ _ hb (by decide)),?_⟩,h.ob.touch ht fun k hk=>?_,ownsRow_touch h.own ht fun i hi=>?_,h.hp,h.row,h.len,h.lim_,h.in_,h.out,h.steps,h.blocks,h.bytes⟩
 ·rcases hf with hf | ⟨q',p1,p2,hv,h1,h2,h3,h4⟩
  ·exact .inl hf
  ·exact .inr ⟨q',p1,p2,hv,h1.touch ht (hne _ _ _ h1 (by decide)),h2.aside hq ht ⟨by decide,by decide,fun h=>by cases h⟩,h3.aside hq ht ⟨by decide,by decide,fun h=>by cases h⟩,h4⟩
 ·rcases hk with rfl | hk
  ·exact hne _ _ _ ho (by decide)
  ·rw [←hg] at hk
   obtain ⟨cs',hc⟩:=own_ty hs hk
   exact hne _ _ _ hc (by decide)
 ·obtain ⟨cs',hc⟩:=own_ty h.own hi
  exact hne _ _ _ hc (by decide)
def RA (B p pb:Nat) (g:Option Nat) (bs:List Nat) (lim:Nat) (w:World) (ov:Value) (r:Res Unit) (e:Ending) (w':World):Prop:=
 match r with
 | .bad er=>e = .returned (.int .i64 (er:Nat))∧Touch (FT p pb ov) w w'
 | .ok _ s=>e = .returned (.int .i64 0)∧∃ K' ov',K'≤w'.heap.size∧RS B K' p pb g bs lim w' ov' s∧Mv p pb w ov w' ov'
theorem RA.fail {q:Nat} {w':World} {R:Res Unit} {er:Nat} {tm:Array Value} (hq:w.heap.size≤q) (he:Blk w' q 30 #[.int .i64 0]) (ht:Touch (FT p pb ov) w w') (hR:Res.bad er=R) (h2:tm[2]? = some (.pointer (some ⟨q,0,none⟩))) :
  Leaves Tryz.prog Tryz.f99 tm (RA B p pb g bs lim w ov R) [{ target := .fn (.func 116) #[.pointer (some ⟨q,0,none⟩)],args := #[] }] (.panicking [{ v := .iface 187 (.int .i64 (er:Nat)),recovered:=false }]) w':=by
 have e0:=(he.cell 0).trans (show _=some (.int .i64 0) from rfl)
 have f0:=he.free 0
 refine leaves_cons (f:=116) (args := #[.pointer (some ⟨q,0,none⟩)]) (by simp) (by simp [go_sem]) ?_
 refine (catch_panicking q er _ 0 e0 f0).mono ?_
 rintro e u' w'' ⟨rfl,rfl,rfl⟩
 have hc:(w'.setCell ⟨q,0,none⟩ (.int .i64 (er:Nat))).cell? ⟨q,0,none⟩=some (.int .i64 (er:Nat)):=World.cell?_setCell_same _ _ _ e0
 subst hR
 simp [Leaves,settle,results,Tryz.results99,go_sem,hc,h2]
 exact ⟨rfl,ht.setCell _ _ (.inr hq)⟩
set_option maxHeartbeats 3200000 in
theorem readAll_any (hK:K≤w.heap.size) (hB:3<B) (hT:Tab w) (hb:Bs bs) (h:RS B K p pb g bs lim w ov s) :
  Calls Tryz.prog 99 #[.pointer (some ⟨p,0,none⟩)] w (RA B p pb g bs lim w ov (run (8*bs.length) (blk1 bs lim) () s)):=by
 obtain ⟨R,hR⟩:∃ R,rest bs lim false s=R:=⟨_,rfl⟩
 rw [show run (8*bs.length) (blk1 bs lim) () s=R from hR]
 have hmf:∀ (fn:Fn) (first cap:Array Value) (w:World),(Instr.makeFunc fn first cap).run Tryz.prog w = .ok (.func fn first cap) w:=fun _ _ _ _=>rfl
 obtain ⟨q,hq⟩:∃ q,q=w.heap.size:=⟨_,rfl⟩
 have hin:=h.in_
 obtain ⟨h0,m0⟩:=h.grow ((Below.refl _ w).alloc (Nat.le_refl _) (.cells #[.int .i64 0] 30))
 have hB0:Blk (w.alloc (.cells #[.int .i64 0] 30)) q 30 #[.int .i64 0]:=by rw [hq];exact heap_alloc_new w _
 have X0:=Lib.hid (show Bx B p pb g bs lim w ov q (w.alloc (.cells #[.int .i64 0] 30)) ov s from ⟨⟨K,Nat.le_trans hK m0.touch.size,h0⟩,m0,hT.touch m0.touch fun h1=>by have:=h.base 3 h1;omega,hB0⟩)
 have HR:=Lib.hid hR
 have HB:=Lib.hid hB
 have HBs:=Lib.hid hb
 clear h0 m0 hB0 hR hT hb h hK hB
 go_enter_defers Tryz.func99,Tryz.ntmps99
 go_wp2
 rw [←hq] at ⊢
 have hq2:w.heap.size≤q:=by omega
 clear hq
 go_loopg [3] (8*bs.length+1) (fun gm v wr=>∃ (last:Bool) (ov':Value) (s':Sta),8*bs.length+1-s'.at_≤gm∧v = .bool last∧Hid (rest bs lim last s'=R)∧Bx B p pb g bs lim w ov q wr ov' s')
 case atStart=>exact ⟨false,ov,s,by omega,rfl,HR,X0.out⟩
 case round=>
  clear X0 HR
  obtain ⟨last,ov1,s1,hgm,rfl,HR,hx⟩:=hrel
  have HX:=Lib.hid hx
  have e0:=(hx.err.cell 0).trans (show _=some (.int .i64 0) from rfl)
  have f0:=hx.err.free 0
  cases last with
  | true=>
   have hR:=HR.out
   have HR1:=Lib.hid (show Res.ok () s1=R from hR)
   clear hR HR hx
   go_wp2
   obtain ⟨K1,hk1,hx1⟩:=HX.out.rs
   refine leaves_cons (f:=116) (args := #[.pointer (some ⟨q,0,none⟩)]) (by simp) (by simp [go_sem]) ?_
   refine (catch_idle q _).mono ?_
   rintro e u' w'' ⟨rfl,rfl,rfl⟩
   have hc:(wr.setCell ⟨q,0,none⟩ (.int .i64 0)).cell? ⟨q,0,none⟩=some (.int .i64 0):=World.cell?_setCell_same _ _ _ e0
   simp only [Leaves,settle,results,Tryz.results99,go_sem]
   rw [←HR1.out]
   simp [hc]
   exact ⟨rfl,K1,ov1,by simpa using hk1,hx1.err HX.out.err _,HX.out.mv.touch.setCell _ _ (.inr hq2),HX.out.mv.row⟩
  | false=>
   obtain ⟨K1,hk1,hx1⟩:=hx.rs
   have H1:=Lib.hid hx1
   have hin1:=hx1.in_
   have hR:=HR.out
   rw [rest_eq HBs.out hin1] at hR
   have HR1:=Lib.hid hR
   clear hx hx1 hR HR
   go_wp2_with fail
   refine (number_any H1.out 1 (by omega)).mono ?_
   rintro e w2 h2
   have hR:=HR1.out
   cases hr1:rdN bs 1 s1 with
   | bad er=>
    rw [hr1] at h2 hR
    obtain ⟨rfl,ht⟩:=h2
    have HR2:=Lib.hid (show Res.bad er=R from hR)
    have HT:=Lib.hid (HX.out.mv.bad ht)
    have HE:=Lib.hid (HX.out.err.safe ht H1.out.safe (by decide))
    clear hr1 hR ht e0 f0
    go_wp2
    exact RA.fail hq2 HE.out HT.out HR2.out rfl
   | ok k s2=>
    rw [hr1] at h2
    rw [hr1,Res.bind_ok] at hR
    obtain ⟨rfl,ov2,h2,m2⟩:=h2
    have hk2:k<2:=rdN_lt hr1
    have hin2:=rdN_is hr1
    have hs2:=hin2.2.2
    have hat2:s2.at_=s1.at_+1:=by rw [hs2]
    have hbk2:s2.blocks=s1.blocks:=by rw [hs2]
    have hbk1:=H1.out.blocks
    have HR2:=Lib.hid hR
    have HK2:=Lib.hid (Nat.le_trans hk1 m2.touch.size)
    have X2:=Lib.hid (HX.out.on HB.out HK2.out h2 m2)
    have H2:=Lib.hid h2
    clear hr1 hR e0 f0 HX H1 hk1 hin2 hs2 h2 m2
    go_wp2_with fail
    refine (block_any HK2.out HB.out X2.out.tab H2.out).mono ?_
    rintro e w3 h3
    have hR:=HR2.out
    cases hr2:blk bs lim s2 with
    | bad er=>
     rw [hr2] at h3 hR
     obtain ⟨rfl,ht⟩:=h3
     have HR3:=Lib.hid (show Res.bad er=R from hR)
     have HT:=Lib.hid (X2.out.mv.bad ht)
     have HE:=Lib.hid (X2.out.err.safe ht H2.out.safe (by decide))
     clear hr2 hR ht
     go_wp2
     exact RA.fail hq2 HE.out HT.out HR3.out rfl
    | ok u s3=>
     rw [hr2] at h3 hR
     obtain ⟨rfl,K3,ov3,hk3,h3,m3⟩:=h3
     have hp3:=blk_pr HBs.out _ _ _ H2.out.in_ hr2
     have X3:=Lib.hid (X2.out.on HB.out hk3 h3 m3)
     have c4:=h3.cells.c4
     have f4:=h3.cells.f4
     have hbk:s3.blocks+1≤s3.at_:=by have:=hp3.blocks;omega
     have hln:=h3.len
     have hi3:=h3.in_
     obtain ⟨h4,m4⟩:=h3.setBlocks (s3.blocks+1) hbk (x:=(s3.blocks:Int)+1) (by simp)
     have X4:=Lib.hid (X3.out.on HB.out (Nat.le_trans hk3 m4.touch.size) h4 m4)
     have HR3:=Lib.hid hR
     have hat3:=hp3.at_
     clear hr2 hR h3 m3 h4 m4 X2 X3 HR2 H2 hp3 hk3
     go_wp2
     go_roundg (8*bs.length+1-s3.at_)
     case measure=>omega
     case rel=>
      refine ⟨decide (k=1),ov3,{ s3 with blocks:=s3.blocks+1 },Nat.le_refl _,?_,HR3,X4.out⟩
      rcases (by omega:k=0∨k=1) with rfl | rfl <;> rfl
end
end
end Go.Proofs.YthbbpooobaahiaaGreatDoor
