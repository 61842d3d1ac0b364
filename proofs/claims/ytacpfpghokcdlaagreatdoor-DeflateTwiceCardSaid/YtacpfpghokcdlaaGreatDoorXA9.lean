/- Part 9. -/
import Derived.Test.YtacpfpghokcdlaaGreatDoorXA8
namespace Go.Proofs.YtacpfpghokcdlaaGreatDoor
set_option maxRecDepth 100000
section
open Go.RowKit
def Tab (w:World):Prop:=∀ j,j<19→w.cell? ⟨2,j,none⟩=some (.int .i64 (ord.getD j 0:Nat))
theorem Tab.touch {S:Nat→Prop} {w w':World} (h:Tab w) (ht:Touch S w w') (hs:¬S 2):Tab w':=fun j hj=>by
 have h1:=h j hj
 rw [←h1]
 exact World.cell?_of_block (ht.block 2 (World.block_lt_of_cell? w _ h1) hs)
theorem Tab.below {w w':World} (h:Tab w) (hb:Below w.heap.size w w'):Tab w':=h.touch (Touch.of_below hb:Touch (fun _=>False) w w') fun h=>h
theorem Tab.pos {w:World} (h:Tab w):2<w.heap.size:=World.block_lt_of_cell? w _ (h 0 (by omega))
theorem ord_idx:∀ i,i<19→∀ k,k<19→(ord.idxOf i=k↔i=ord.getD k 0):=by decide +kernel
theorem ord_lt:∀ k,k<19→ord.getD k 0<19:=by decide +kernel
theorem ownOf_len (l:List Nat):(ownOf l).length=19:=by simp [ownOf]
theorem ownOf_at (l:List Nat) (i:Nat) (h:i<19):(ownOf l).getD i 0=l.getD (ord.idxOf i) 0:=by simp [ownOf,List.getD,h]
theorem ownOf_set (l:List Nat) (v:Nat) (hl:l.length<19):(ia 19 fun j=>(ownOf l).getD j 0).setIfInBounds (ord.getD l.length 0) (.int .i64 (v:Nat))=ia 19 fun j=>(ownOf (l++[v])).getD j 0:=by
 refine ia_set 19 _ _ _ v fun i hi=>?_
 rw [ownOf_at _ _ hi,ownOf_at _ _ hi]
 have h:=ord_idx i hi l.length hl
 by_cases h1:ord.idxOf i=l.length
 ·rw [if_pos (h.1 h1),h1]
  simp [List.getD]
 ·rw [if_neg (fun e=>h1 (h.2 e))]
  simp only [List.getD_eq_getElem?_getD,List.getElem?_append]
  split
  ·rfl
  ·rename_i h2
   rw [List.getElem?_eq_none (by omega:l.length≤_)]
   rw [List.getElem?_eq_none (by simp;omega)]
theorem ownOf_nil:(ia 19 fun j=>(ownOf []).getD j 0)=va (19*1) fun i=>(Value.int .i64 0).cells[i%(Value.int .i64 0).cells.size]! := by
 refine va_congr fun i hi=>?_
 show Value.int .i64 (((ownOf []).getD i 0:Nat):Int)=_
 rw [ownOf_at _ _ (by omega)]
 simp [Value.cells,Nat.mod_one]
theorem ownOf_small {o:List Nat} (h:∀ x∈o,x<8):∀ x∈ownOf o,x≤15:=by
 intro x hx
 simp [ownOf] at hx
 obtain ⟨j,_,rfl⟩:=hx
 cases hj:o[ord.idxOf j]? with
 | none=>simp
 | some y=>have:=h y (List.mem_of_getElem? hj);simp;omega
theorem enter52 (A:Array Value) (w:World):(callFunc 38 A).run Tryz.prog w = .ok (.enter 38 A) w:=by kernel_rfl
theorem step_panics {ops:Array Oper} {o:Oper} {a:Act} {w:World} {K:Act→World→Prop} {Q:Exit→Act→World→Prop} {E:Prop} (hw:Region.wanted o (yielded ops a.tmps)=true) (f:FuncId) (args:Array Value)
  (hr:(execOp a.eval o).run Tryz.prog w = .ok (.enter f args) w) (hc:Calls Tryz.prog f args w fun e w'=>∃ ch,e = .panicked ch∧Q (.panic ch) a w') :
  if Region.wanted o (yielded ops a.tmps)=true then Oper.wp Tryz.prog o a w K Q else E:=by
 rw [if_pos hw]
 unfold Oper.wp
 rw [hr]
 exact hc.mono (by rintro e w' ⟨ch,rfl,hR⟩;exact hR)
section
variable {B K p pb:Nat} {g:Option Nat} {bs:List Nat} {lim:Nat} {w:World} {ov:Value} {s:Sta}
def OC (B K p pb:Nat) (g:Option Nat) (bs:List Nat) (lim:Nat) (w:World) (ov:Value) (r:Res (List Nat)) (e:Ending) (w':World):Prop:=
 match r with
 | .bad er=>RBad p pb w ov er e w'
 | .ok o s=>∃ pc,e = .returned (.pointer (some ⟨pc,0,none⟩))∧CodeAt w' pc (ownOf o)∧∃ ov',RS B K p pb g bs lim w' ov' s∧Mv p pb w ov w' ov'
theorem OC.bad {R:Res (List Nat)} {er:Nat} {w':World} (e:R = .bad er) (ht:Touch (FT p pb ov) w w'):OC B K p pb g bs lim w ov R (pan er) w':=by
 subst e;exact ⟨rfl,ht⟩
def ownR (bs:List Nat) (n:Nat) (s:Sta):Res (List Nat):=(rdO bs n [] s).bind fun o s4=>if room (ownOf o)≠32768 then .bad 10 else .ok o s4
structure Ox (B K p pb:Nat) (g:Option Nat) (bs:List Nat) (lim:Nat) (w:World) (ov:Value) (q:Nat) (l:List Nat) (wr:World) (ov':Value) (s':Sta):Prop where
 rs:RS B K p pb g bs lim wr ov' s'
 mv:Mv p pb w ov wr ov'
 row:Blk wr q 3 (ia 19 fun j=>(ownOf l).getD j 0)
 tab:Tab wr
set_option maxHeartbeats 3200000 in
theorem ownCode_any {n:Nat} (hK:K≤w.heap.size) (hB:2<B) (hT:Tab w) (h:RS B K p pb g bs lim w ov s) (hn:n≤19) :
  Calls Tryz.prog 101 #[.pointer (some ⟨p,0,none⟩),.int .i64 n] w (OC B K p pb g bs lim w ov (ownR bs n s)):=by
 obtain ⟨R,hR⟩:∃ R,R=ownR bs n s:=⟨_,rfl⟩
 rw [←hR]
 unfold ownR at hR
 obtain ⟨R0,hR0⟩:∃ R0,R0=rdO bs n [] s:=⟨_,rfl⟩
 rw [←hR0] at hR
 have HR:=Lib.hid hR
 have HR0:Hid (rdO bs (n-([]:List Nat).length) [] s=R0∧∀ x∈([]:List Nat),x<8):=Lib.hid ⟨hR0.symm,fun x hx=>by simp at hx⟩
 obtain ⟨q,hq⟩:∃ q,q=w.heap.size:=⟨_,rfl⟩
 have HQ:=Lib.hid hq
 have H:=Lib.hid h
 have HK:=Lib.hid hK
 have HT:=Lib.hid hT
 have HW0:=Lib.hid hT.pos
 have HBp:=Lib.hid hB
 clear hR hR0 h hT hq hK hB
 go_enter Tryz.func101,Tryz.ntmps101
 go_wp2_with (refine wpList_make_z rfl 40 (.const (.int .i64 19)) (.const (.int .i64 19)) rfl 3 (.int .i64 0) 1 8 19 Tryz.underlying40 (by kernel_rfl) .i64 .i64 _ _ rfl rfl rfl rfl (by omega) (by omega) ?_;intro W1 hb1 ht1 hs1;rw [←ownOf_nil,←HQ.out] at hb1;rw [←HQ.out];have HW1:=Lib.hid hb1;have HT1:=Lib.hid ht1;clear hb1 ht1 hs1)
 have HX0:Hid (Ox B K p pb g bs lim w ov q [] W1 ov s):=Lib.hid (by
  have hb:Below w.heap.size w W1:=HT1.out.below (Nat.le_refl _) fun _ h=>h.elim
  obtain ⟨h2,m2⟩:=H.out.grow hb
  exact ⟨h2,m2,HW1.out,HT.out.below hb⟩)
 clear HW1 HT1 H HT
 go_loopw [6,10] (fun _ iv' wr=>∃ (l:List Nat) (s':Sta) (ov':Value),l.length≤n∧iv' = .int .i64 l.length∧Hid (rdO bs (n-l.length) l s'=R0∧∀ x∈l,x<8)∧Ox B K p pb g bs lim w ov q l wr ov' s') (fun _ iv' _=>n-(intOf iv').toNat)
 case atStart=>exact ⟨[],s,ov,Nat.zero_le _,rfl,HR0,HX0.out⟩
 case round=>
  clear HX0 HR0
  obtain ⟨l,s1,ov1,hl,rfl,HS,hx⟩:=hrel
  have HX:=Lib.hid hx
  clear hx
  by_cases hlt:l.length<n
  ·obtain ⟨i,hi⟩:∃ i,i=l.length:=⟨_,rfl⟩
   have hi19:i<19:=by omega
   obtain ⟨o,ho⟩:∃ o,o=ord.getD i 0:=⟨_,rfl⟩
   have ho19:o<19:=by rw [ho];exact ord_lt i hi19
   have t0:=HX.out.tab i hi19
   rw [←ho] at t0
   have hD:=HX.out.rs.drewN 1
   have hN:=number_any hD.1 3 (by omega)
   have hS:=HS.out.1
   rw [show n-l.length=(n-l.length-1)+1 by omega,rdO] at hS
   have HO:=Lib.hid (And.intro hi ho)
   cases hr:rdN bs 3 s1 with
   | bad er=>
    rw [hr] at hN hS
    have HN:Hid (Calls Tryz.prog 38 #[.pointer (some ⟨p,0,none⟩),.int .i64 3] wr.drew (RBad p pb wr.drew ov1 er)):=Lib.hid hN
    have FIN:Hid (∀ w2,RBad p pb wr.drew ov1 er (pan er) w2→OC B K p pb g bs lim w ov R (pan er) w2):=Lib.hid fun w2 h2=>by
     refine OC.bad ?_ ((HX.out.mv.trans hD.2).bad h2.2)
     rw [HR.out,←hS]
     rfl
    have hin:(i:Int)<n:=by omega
    have hi0:(0:Int)≤i:=by omega
    have hi9:(i:Int)<19:=by omega
    clear hN hS hr hD ho
    rw [←hi]
    clear hi hlt hl
    go_wp2
    refine wp_region_held_drew (S:=fun W=>W.cell? ⟨2,i,none⟩=some (.int .i64 (o:Nat))) (by kernel_rfl) t0 (fun hHeld=>?_)
    refine wpAnyH_take (i:=0) (v := .slice (some ⟨q,0,none⟩) 19 19) (oi:={ dst:=some 13,op:=Op.move (Operand.tmp 5),type:=40,pos := "inflate.go:217",after := #[],guard:=none }) rfl (by kernel_rfl) (by kernel_rfl) (by kernel_rfl) (fun _ _ _ h=>h) (Or.inl ⟨by rfl,fun W hSw=>by go_simp⟩) hHeld ?_
    try simp only [Act.put,List.setIfInBounds_toArray,List.set_cons_zero,List.set_cons_succ]
    refine wpAnyH_take (i:=1) (v := .int .i64 i) (oi:={ dst:=some 14,op:=Op.move (Operand.tmp 6),type:=3,pos := "inflate.go:217",after := #[],guard:=none }) rfl (by kernel_rfl) (by kernel_rfl) (by kernel_rfl) (fun _ _ _ h=>h) (Or.inl ⟨by rfl,fun W hSw=>by go_simp⟩) hHeld ?_
    try simp only [Act.put,List.setIfInBounds_toArray,List.set_cons_zero,List.set_cons_succ]
    refine wpAnyH_take (i:=2) (v := .pointer (some ⟨2,i,none⟩)) (oi:={ dst:=some 15,op:=Op.indexAddr 186 (Operand.global 2) (Operand.tmp 14),type:=0,pos := "inflate.go:217",after := #[{ on:=1,ground:=Ground.data }],guard:=none }) rfl (by kernel_rfl) (by kernel_rfl) (by kernel_rfl) (fun _ _ _ h=>h) (Or.inl ⟨by rfl,fun W hSw=>by go_simp⟩) hHeld ?_
    try simp only [Act.put,List.setIfInBounds_toArray,List.set_cons_zero,List.set_cons_succ]
    refine wpAnyH_take (i:=3) (v := .int .i64 (o:Nat)) (oi:={ dst:=some 16,op:=Op.load 3 (Operand.tmp 15),type:=3,pos := "inflate.go:217",after := #[{ on:=2,ground:=Ground.data }],guard:=none }) rfl (by kernel_rfl) (by kernel_rfl) (by kernel_rfl) (fun _ _ _ h=>h) (Or.inl ⟨by rfl,fun W hSw=>by go_simp⟩) hHeld ?_
    try simp only [Act.put,List.setIfInBounds_toArray,List.set_cons_zero,List.set_cons_succ]
    refine wpAnyH_take (i:=4) (v := .pointer (some ⟨p,0,none⟩)) (oi:={ dst:=some 17,op:=Op.move (Operand.tmp 0),type:=44,pos := "inflate.go:217",after := #[],guard:=none }) rfl (by kernel_rfl) (by kernel_rfl) (by kernel_rfl) (fun _ _ _ h=>h) (Or.inl ⟨by rfl,fun W hSw=>by go_simp⟩) hHeld ?_
    try simp only [Act.put,List.setIfInBounds_toArray,List.set_cons_zero,List.set_cons_succ]
    refine wpAnyH_ready (rs:=[5]) (by kernel_rfl) (by simp) ?_
    refine AllReadyH.cons (o:={ dst:=some 18,op:=Op.call { callee:=Callee.value (Operand.func 38),args := #[Operand.tmp 17,Operand.const (Value.int IntKind.i64 3)],argTypes := #[44,3] },type:=3,pos := "inflate.go:217",after := #[{ on:=4,ground:=Ground.data }],guard:=none }) rfl (fun K hK=>?_) AllReadyH.nil
    refine step_panics (by rfl) _ _ (Z.run_call2 (.func 38) (.tmp 17) (.const (.int .i64 3)) _ 38 #[] (.pointer (some ⟨p,0,none⟩)) (.int .i64 3) (fun _=>enter52 _ _) rfl rfl rfl rfl) ?_
    refine HN.out.mono ?_
    rintro e w2 ⟨rfl,ht⟩
    exact ⟨_,rfl,rfl,FIN.out _ ⟨rfl,ht⟩⟩
   | ok v s2=>
    rw [hr] at hN hS
    rw [Res.bind_ok] at hS
    have HN:Hid (Calls Tryz.prog 38 #[.pointer (some ⟨p,0,none⟩),.int .i64 3] wr.drew (ROk B K p pb g bs lim wr.drew ov1 (.int .i64 (v:Nat)) s2)):=Lib.hid hN
    have HV8:Hid (∀ x∈l++[v],x<8):=Lib.hid fun x hx=>by
     rcases List.mem_append.1 hx with hx | hx
     ·exact HS.out.2 x hx
     ·rw [List.mem_singleton.1 hx];exact rdN_lt hr
    have HS1:=Lib.hid hS
    have hq0:=hD.1
    have hB0:=HBp.out
    have AFT:Hid (∀ w2 ov2,RS B K p pb g bs lim w2 ov2 s2→Mv p pb wr.drew ov1 w2 ov2→
      w2.cell? ⟨2,i,none⟩=some (.int .i64 (o:Nat))∧w2.frozen? ⟨q,o,none⟩=false∧w2.cell? ⟨q,o,none⟩=some (.int .i64 ((ownOf l).getD o 0:Nat))∧Hid (Ox B K p pb g bs lim w ov q (l++[v]) (w2.setCell ⟨q,o,none⟩ (.int .i64 (v:Nat))) ov2 s2)):=Lib.hid fun w2 ov2 h2 m2=>by
     have hrow:Blk wr.drew q 3 (ia 19 fun j=>(ownOf l).getD j 0):=HX.out.row
     have hr2:=hrow.safe m2.touch hq0.safe (by decide)
     have htab:Tab wr.drew:=HX.out.tab
     have ht2:=htab.touch m2.touch fun h0=>by have:=hq0.base 2 h0;omega
     have hi2:=ht2 i hi19
     rw [←ho] at hi2
     refine ⟨hi2,hr2.free o,(hr2.cell o).trans (va_at 19 _ o ho19),Lib.hid ?_⟩
     have hset:Touch (fun k=>k=q) w2 (w2.setCell ⟨q,o,none⟩ (.int .i64 (v:Nat))):=(Touch.refl _ w2).setCell _ _ (.inl rfl)
     have hqw:w.heap.size≤q:=Nat.le_of_eq HQ.out.symm
     obtain ⟨h3,m3⟩:=item_end h2 ((HX.out.mv.trans hD.2).trans m2) hr2 (.inr ⟨.inl rfl,Nat.le_trans HK.out hqw⟩) hqw hset
     refine ⟨h3,m3,?_,ht2.touch hset fun e=>?_⟩
     ·have:=hr2.setCell o (.int .i64 (v:Nat))
      have h5:=ownOf_set l v (by omega)
      rw [←hi,←ho] at h5
      rwa [h5] at this
     ·have h6:=HW0.out
      have h7:q=2:=e.symm
      have hz:=HQ.out
      omega
    have hin:(i:Int)<n:=by omega
    have ho19':(o:Int)<19:=by omega
    have ho0:(0:Int)≤o:=by omega
    have hi0:(0:Int)≤i:=by omega
    have hi9:(i:Int)<19:=by omega
    clear hN hS hr hD ho hq0 hB0
    rw [←hi]
    clear hi
    go_wp2
    go_region_with (go_at_call 38;(refine HN.out.mono ?_);rintro e w2 ⟨rfl,ov2,h2,m2⟩;obtain ⟨c1,c2,c3,c4⟩:=AFT.out w2 ov2 h2 m2;have C4:=Lib.hid c4;clear h2 m2 c4)
    all_goals
     go_wp2
     go_roundw
     case rel=>
      refine ⟨l++[v],s2,ov2,by simp;omega,?_,?_,C4.out⟩
      ·have:=HO.out.1
       simp only [List.length_append,List.length_singleton]
       rw [←this]
       go_num
      ·have h6:=HS1.out
       have h7:=HO.out.1
       rw [←h6]
       rw [List.length_append,List.length_singleton]
       exact Lib.hid ⟨by congr 1,HV8.out⟩
     case measure=>have:=HO.out.1;simp [intOf];omega
  ·have hge:(n:Int)≤l.length:=by omega
   have hln:l.length=n:=by omega
   have hS:=HS.out.1
   rw [hln,Nat.sub_self] at hS
   have hR1:=HR.out
   rw [←hS] at hR1
   simp only [rdO,Res.bind_ok] at hR1
   have HR1:=Lib.hid hR1
   have HI:Hid (IS wr (some ⟨q,0,none⟩) (zn (ownOf l))):=Lib.hid (blk_is HX.out.row (zn (ownOf l)) (by rw [zn_len,ownOf_len]) fun j _=>zn_at _ _)
   have HV:Hid (Vd (zn (ownOf l))):=Lib.hid ⟨by rw [zn_len,ownOf_len];omega,fun z hz=>by
    unfold zn at hz
    obtain ⟨x,hx,rfl⟩:=List.mem_map.1 hz
    have:=ownOf_small HS.out.2 x hx
    omega⟩
   have HZL:Hid ((zn (ownOf l)).length=19):=Lib.hid (by rw [zn_len,ownOf_len])
   clear hS hR1 hln hlt hl
   go_wp2_with fail
   by_cases hro:room (ownOf l)≤32768
   ·refine (codeOf_yes (some ⟨q,0,none⟩) 19 19 (zn (ownOf l)) _ HI.out HZL.out HV.out (by rw [zn_nat];exact hro)).mono ?_
    rintro e w2 ⟨pc,rfl,hc,hb⟩
    rw [zn_nat] at hc
    have HC2:=Lib.hid (Complete_any pc (ownOf l) w2 hc)
    have HCC:=Lib.hid hc
    have HB:=Lib.hid hb
    by_cases hr2:room (ownOf l)=32768
    ·have hR2:=HR1.out
     rw [if_neg (by simpa using hr2)] at hR2
     have HR2:=Lib.hid hR2
     simp only [hr2,decide_true] at HC2
     clear hR2 hc hb hro hr2
     go_wp2_with (first
      | (go_at_call 139;(refine HC2.out.mono ?_);rintro e w3 ⟨rfl,hb3⟩;have HB3:=Lib.hid hb3;clear hb3)
      | (go_at_call 60;(with_reducible refine (must_yes _ _).mono ?_);rintro e w7 ⟨rfl,rfl⟩))
     go_ret
     obtain ⟨h4,m4⟩:=HX.out.rs.grow HB.out
     obtain ⟨h5,m5⟩:=h4.grow HB3.out
     have hR2:=HR2.out
     subst hR2
     exact ⟨pc,rfl,HCC.out.below HB3.out,ov1,h5,HX.out.mv.trans (m4.trans m5)⟩
    ·have hR2:=HR1.out
     rw [if_pos (by simpa using hr2)] at hR2
     have HR2:=Lib.hid hR2
     simp only [hr2,decide_false] at HC2
     clear hR2 hc hb hro hr2
     go_wp2_with (first
      | (go_at_call 139;(refine HC2.out.mono ?_);rintro e w3 ⟨rfl,hb3⟩;have HB3:=Lib.hid hb3;clear hb3)
      | (go_at_call 60;(refine (must_no 10 _).mono ?_);rintro e w7 ⟨rfl,rfl⟩))
     obtain ⟨h4,m4⟩:=HX.out.rs.grow HB.out
     obtain ⟨h5,m5⟩:=h4.grow HB3.out
     exact ⟨rfl,OC.bad HR2.out (HX.out.mv.trans (m4.trans m5)).touch⟩
   ·have hR2:=HR1.out
    rw [if_pos (by intro e;omega)] at hR2
    have HR2:=Lib.hid hR2
    refine (codeOf_no (some ⟨q,0,none⟩) 19 19 (zn (ownOf l)) _ HI.out HZL.out HV.out (by rw [zn_nat];omega)).mono ?_
    rintro e w2 ⟨rfl,hb⟩
    have HB:=Lib.hid hb
    clear hR2 hro hb
    go_wp2
    obtain ⟨h4,m4⟩:=HX.out.rs.grow HB.out
    exact ⟨rfl,OC.bad HR2.out (HX.out.mv.trans m4).touch⟩
end
theorem is_take {w:World} {ao:Option Addr} {zs:List Int} (h:IS w ao zs) (k:Nat):IS w ao (zs.take k):=by
 rcases h with rfl | ⟨b,off,rfl,hc⟩
 ·exact .inl (by simp)
 ·refine .inr ⟨b,off,rfl,fun j hj=>?_⟩
  rw [List.length_take] at hj
  rw [hc j (by omega)]
  simp only [List.getD_eq_getElem?_getD]
  rw [List.getElem?_take_of_lt (by omega)]
theorem is_drop {w:World} {b off:Nat} {zs:List Int} (h:IS w (some ⟨b,off,none⟩) zs) (k:Nat):IS w (some ⟨b,off+k,none⟩) (zs.drop k):=by
 rcases h with rfl | ⟨b',off',he,hc⟩
 ·exact .inl (by simp)
 ·simp only [Option.some.injEq,Addr.mk.injEq,and_true] at he
  obtain ⟨rfl,rfl⟩:=he
  refine .inr ⟨b,off+k,rfl,fun j hj=>?_⟩
  rw [List.length_drop] at hj
  rw [Nat.add_assoc,hc (k+j) (by omega)]
  simp only [List.getD_eq_getElem?_getD,List.getElem?_drop]
theorem zn_take (l:List Nat) (k:Nat):(zn l).take k=zn (l.take k):=by simp [zn]
theorem zn_drop (l:List Nat) (k:Nat):(zn l).drop k=zn (l.drop k):=by simp [zn]
theorem zn_vd {l:List Nat} (h:∀ x∈l,x≤15) (hl:l.length≤320):Vd (zn l):=⟨by rw [zn_len];exact hl,fun z hz=>by
 unfold zn at hz
 obtain ⟨x,hx,rfl⟩:=List.mem_map.1 hz
 have:=h x hx
 omega⟩
theorem isFull_zn (p:Nat) (ao:Option Addr) (c n:Nat) (ls:List Nat) (w:World) (h:CodeAt w p ls) (hi:IS w ao (zn ls)) (hl:(zn ls).length=n) (hv:Vd (zn ls)) :
  Calls Tryz.prog 103 #[.pointer (some ⟨p,0,none⟩),.slice ao n c] w fun e w'=>e = .returned (.bool (whole ls))∧Below w.heap.size w w':=by
 have:=isFull_any p ao c n (zn ls) w (by rw [zn_nat];exact h) hi hl hv
 rw [zn_nat] at this
 exact this
section
variable {B K p pb:Nat} {g:Option Nat} {bs:List Nat} {lim:Nat} {w:World} {ov:Value} {s:Sta}
def CD (B K p pb:Nat) (g:Option Nat) (bs:List Nat) (lim:Nat) (w:World) (ov:Value) (r:Res (List Nat × List Nat)) (e:Ending) (w':World):Prop:=
 match r with
 | .bad er=>RBad p pb w ov er e w'
 | .ok c s=>∃ p1 p2,e = .returned (.agg #[.pointer (some ⟨p1,0,none⟩),.pointer (some ⟨p2,0,none⟩)])∧CodeAt w' p1 c.1∧CodeAt w' p2 c.2∧∃ ov',RS B K p pb g bs lim w' ov' s∧Mv p pb w ov w' ov'
theorem CD.bad {R:Res (List Nat × List Nat)} {er:Nat} {w':World} (e:R = .bad er) (ht:Touch (FT p pb ov) w w'):CD B K p pb g bs lim w ov R (pan er) w':=by
 subst e;exact ⟨rfl,ht⟩
structure Tx (B K p pb:Nat) (g:Option Nat) (bs:List Nat) (lim:Nat) (w:World) (ov:Value) (r:Nat) (wr:World) (ov':Value) (s':Sta):Prop where
 rs:RS B K p pb g bs lim wr ov' s'
 mv:Mv p pb w ov wr ov'
 tab:Tab wr
 res:Blk wr r 111 #[.pointer none,.pointer none]
 hB:2<B
 hK:K≤wr.heap.size
theorem Tx.on {r:Nat} {wr w2:World} {ov' ov2:Value} {s' s2:Sta} (h:Tx B K p pb g bs lim w ov r wr ov' s') (k:RS B K p pb g bs lim w2 ov2 s2) (m:Mv p pb wr ov' w2 ov2):Tx B K p pb g bs lim w ov r w2 ov2 s2:=
 ⟨k,h.mv.trans m,h.tab.touch m.touch fun h0=>by have:=h.rs.base 2 h0;have:=h.hB;omega,h.res.safe m.touch h.rs.safe (by decide),h.hB,Nat.le_trans h.hK m.touch.size⟩
theorem Tx.grow {r:Nat} {wr w2:World} {ov':Value} {s':Sta} (h:Tx B K p pb g bs lim w ov r wr ov' s') (hb:Below wr.heap.size wr w2):Tx B K p pb g bs lim w ov r w2 ov' s':=by
 obtain ⟨k,m⟩:=h.rs.grow hb
 exact h.on k m
set_option maxHeartbeats 6400000 in
theorem toldCodes_any (hK:K≤w.heap.size) (hB:2<B) (hT:Tab w) (h:RS B K p pb g bs lim w ov s) :
  Calls Tryz.prog 64 #[.pointer (some ⟨p,0,none⟩)] w (CD B K p pb g bs lim w ov (codes bs s)):=by
 obtain ⟨R,hR⟩:∃ R,R=codes bs s:=⟨_,rfl⟩
 rw [←hR]
 unfold codes at hR
 have HR:=Lib.hid hR
 clear hR
 obtain ⟨r,hr⟩:∃ r,r=w.heap.size:=⟨_,rfl⟩
 have HRW:=Lib.hid hr
 have HKW:=Lib.hid hK
 have HX0:Hid (Tx B K p pb g bs lim w ov r (w.alloc (.cells #[.pointer none,.pointer none] 111)) ov s):=Lib.hid (by
  have hA:Below w.heap.size w (w.alloc (.cells #[.pointer none,.pointer none] 111)):=(Below.refl _ w).alloc (Nat.le_refl _) _
  obtain ⟨h1,m1⟩:=h.grow hA
  exact ⟨h1,m1,hT.below hA,by rw [hr];exact Blk.made _ _ _,hB,Nat.le_trans hK hA.size⟩)
 obtain ⟨W,hW⟩:∃ W,W=w.alloc (.cells #[.pointer none,.pointer none] 111):=⟨_,rfl⟩
 clear h hT hB hK
 go_enter Tryz.func64,Tryz.ntmps64
 go_wp2_with fail
 rw [←hW] at HX0 ⊢
 rw [←hr]
 clear hr hW
 refine (number_any HX0.out.rs 5 (by omega)).mono ?_
 rintro e w1 h1
 have hR:=HR.out
 cases hr1:rdN bs 5 s with
 | bad er=>
  rw [hr1] at h1 hR
  obtain ⟨rfl,ht⟩:=h1
  have HR1:=Lib.hid hR
  clear hr1 hR
  go_wp2
  exact ⟨rfl,CD.bad HR1.out (HX0.out.mv.bad ht)⟩
 | ok l s1=>
 rw [hr1] at h1
 rw [hr1,Res.bind_ok] at hR
 obtain ⟨rfl,ov1,h1,m1⟩:=h1
 have hl32:l<32:=rdN_lt hr1
 have HX1:=Lib.hid (HX0.out.on h1 m1)
 have HR1:=Lib.hid hR
 clear hr1 hR h1 m1 HX0 HR
 go_wp2_with fail
 refine (number_any HX1.out.rs 5 (by omega)).mono ?_
 rintro e w2 h2
 have hR:=HR1.out
 cases hr2:rdN bs 5 s1 with
 | bad er=>
  rw [hr2] at h2 hR
  obtain ⟨rfl,ht⟩:=h2
  have HR2:=Lib.hid hR
  clear hr2 hR
  go_wp2
  exact ⟨rfl,CD.bad HR2.out (HX1.out.mv.bad ht)⟩
 | ok d s2=>
 rw [hr2] at h2
 rw [hr2,Res.bind_ok] at hR
 obtain ⟨rfl,ov2,h2,m2⟩:=h2
 have hd32:d<32:=rdN_lt hr2
 have HX2:=Lib.hid (HX1.out.on h2 m2)
 have HR2:=Lib.hid hR
 clear hr2 hR h2 m2 HX1 HR1
 go_wp2_with fail
 refine (number_any HX2.out.rs 4 (by omega)).mono ?_
 rintro e w3 h3
 have hR:=HR2.out
 cases hr3:rdN bs 4 s2 with
 | bad er=>
  rw [hr3] at h3 hR
  obtain ⟨rfl,ht⟩:=h3
  have HR3:=Lib.hid hR
  clear hr3 hR
  go_wp2
  exact ⟨rfl,CD.bad HR3.out (HX2.out.mv.bad ht)⟩
 | ok c s3=>
 rw [hr3] at h3
 rw [hr3,Res.bind_ok] at hR
 obtain ⟨rfl,ov3,h3,m3⟩:=h3
 have hc16:c<16:=rdN_lt hr3
 have HX3:=Lib.hid (HX2.out.on h3 m3)
 have HR3:=Lib.hid hR
 clear hr3 hR h3 m3 HX2 HR2
 by_cases hbad:29<l∨29<d
 ·have hR:=HR3.out
  rw [if_pos hbad] at hR
  have HR4:=Lib.hid hR
  clear hR HR3
  by_cases hl:29<l
  ·have e1:decide ((l:Int)≤29)=false:=by simp;omega
   clear hbad hl
   go_wp2_with (go_at_call 60;(refine (must_no 10 _).mono ?_);rintro e w7 ⟨rfl,rfl⟩)
   exact ⟨rfl,CD.bad HR4.out HX3.out.mv.touch⟩
  ·have e1:decide ((l:Int)≤29)=true:=by simp;omega
   have e2:decide ((d:Int)≤29)=false:=by simp;omega
   clear hbad hl
   go_wp2_with (go_at_call 60;(refine (must_no 10 _).mono ?_);rintro e w7 ⟨rfl,rfl⟩)
   exact ⟨rfl,CD.bad HR4.out HX3.out.mv.touch⟩
 have hR:=HR3.out
 rw [if_neg hbad] at hR
 have e1:decide ((l:Int)≤29)=true:=by simp;omega
 have e2:decide ((d:Int)≤29)=true:=by simp;omega
 have hl29:l≤29:=by omega
 have hd29:d≤29:=by omega
 obtain ⟨n4,hn4⟩:∃ n4,n4=4+c:=⟨_,rfl⟩
 have e4:(4:Int)+(c:Int)=(n4:Nat):=by omega
 have hn19:n4≤19:=by omega
 rw [←hn4] at hR
 have HR4:=Lib.hid hR
 clear hR hbad hn4 HR3
 go_wp2_with (go_at_call 60;(with_reducible refine (must_yes _ _).mono ?_);rintro e w7 ⟨rfl,rfl⟩)
 clear e1 e2 e4
 refine (ownCode_any HX3.out.hK HX3.out.hB HX3.out.tab HX3.out.rs hn19).mono ?_
 rintro e w4 h4
 have hR:=HR4.out
 have hown:∀ {β : Type} (k:List Nat→Sta→Res β),((rdO bs n4 [] s3).bind fun o s4=>if room (ownOf o)≠32768 then .bad 10 else k o s4)=(ownR bs n4 s3).bind k:=fun k=>by
  unfold ownR
  cases rdO bs n4 [] s3 with
  | bad e=>rfl
  | ok o s4=>simp only [Res.bind_ok];split <;> rfl
 rw [hown] at hR
 clear hown
 cases hr4:ownR bs n4 s3 with
 | bad er=>
  rw [hr4] at h4 hR
  obtain ⟨rfl,ht⟩:=h4
  have HR5:=Lib.hid hR
  clear hr4 hR
  go_wp2
  exact ⟨rfl,CD.bad HR5.out (HX3.out.mv.bad ht)⟩
 | ok o s4=>
 rw [hr4] at h4
 rw [hr4,Res.bind_ok] at hR
 obtain ⟨pc,rfl,hc4,ov4,h4,m4⟩:=h4
 have HX4:=Lib.hid (HX3.out.on h4 m4)
 have HC4:=Lib.hid hc4
 obtain ⟨A,hA⟩:∃ A,A=257+l:=⟨_,rfl⟩
 obtain ⟨D,hD⟩:∃ D,D=1+d:=⟨_,rfl⟩
 obtain ⟨N,hN⟩:∃ N,N=A+D:=⟨_,rfl⟩
 have hN2:258+l+d=N:=by omega
 have e5:(257:Int)+(l:Int)=(A:Nat):=by omega
 have e6:(A:Int)+1+(d:Int)=(N:Nat):=by omega
 have hA1:257≤A:=by omega
 have hA2:A≤286:=by omega
 have hD1:1≤D:=by omega
 have hD2:D≤30:=by omega
 rw [hN2,←hA] at hR
 have HR5:=Lib.hid hR
 have HN:=Lib.hid hN
 have hN3:N≤320:=by omega
 have hN4:1≤N:=by omega
 have HAD:=Lib.hid (And.intro hA hD)
 clear hr4 hR h4 m4 hc4 HX3 HR4 hN hN2 hA hD
 go_wp2_with fail
 refine (lengths_any HX4.out.hK HX4.out.rs HC4.out (ownOf_len o) hN4 hN3).mono ?_
 rintro e w5 h5
 have hR:=HR5.out
 cases hr5:lens bs (ownOf o) N s4 with
 | bad er=>
  rw [hr5] at h5 hR
  obtain ⟨rfl,ht⟩:=h5
  have HR6:=Lib.hid hR
  clear hr5 hR
  go_wp2
  exact ⟨rfl,CD.bad HR6.out (HX4.out.mv.bad ht)⟩
 | ok row s5=>
 rw [hr5] at h5
 rw [hr5,Res.bind_ok] at hR
 obtain ⟨a,c7,rfl,⟨i5,k5⟩,ov5,h5,m5⟩:=h5
 obtain ⟨hlen,hsm⟩:=lens_is (ownOf_len o) HX4.out.rs.in_ hr5
 rw [hlen] at k5 ⊢
 have HX5:=Lib.hid (HX4.out.on h5 m5)
 obtain ⟨b,off,rfl,q0⟩:=i5.at (k:=256) (by rw [zn_len];omega)
 rw [zn_at] at q0
 obtain ⟨x,hx⟩:∃ x,x=row.getD 256 0:=⟨_,rfl⟩
 rw [←hx] at q0 hR
 have HROW:=Lib.hid (And.intro hlen hsm)
 have HI5:=Lib.hid i5
 have HR6:=Lib.hid hR
 have hND:N-A=D:=by have:=HN.out;omega
 have hAN:A<N:=by have:=HN.out;omega
 have hAN':(A:Int)≤N:=by omega
 have hc7:(N:Int)≤c7:=by omega
 have hAc:(A:Int)≤c7:=by omega
 have hne:¬(c7=A):=by omega
 have hx16:x≤15:=by
  rw [hx,List.getD_eq_getElem?_getD,List.getElem?_eq_getElem (by omega)]
  exact hsm _ (List.getElem_mem _)
 have HQ0:=Lib.hid q0
 clear hr5 hR h5 m5 hlen hsm i5 HX4 HR5 HC4 hx q0
 go_wp2_with fail
 go_quiet (fail)
 obtain ⟨h6,m6⟩:=HX5.out.rs.drewN nq
 have HX6:=Lib.hid (HX5.out.on h6 m6)
 have HI6:Hid (IS (w5.drewN nq) (some ⟨b,off,none⟩) (zn row)):=Lib.hid (HI5.out.drewN nq)
 have q6:(w5.drewN nq).cell? ⟨b,off+256,none⟩=some (.int .i64 (x:Nat)):=HQ0.out
 obtain ⟨W6,hW6⟩:∃ W6,W6=w5.drewN nq:=⟨_,rfl⟩
 rw [←hW6] at HX6 HI6 q6 ⊢
 clear h6 m6 HX5 HI5 HQ0 hW6 hND hAN hAN' hc7 hAc hne e5 e6
 have e7:(256:Int)<A:=by omega
 by_cases hx0:x=0
 ·have hR:=HR6.out
  rw [if_pos hx0] at hR
  have HR7:=Lib.hid hR
  have d1:decide ((0:Int)<x)=false:=by simp;omega
  have d2:decide (0<x)=false:=by simp;omega
  clear hR hx0
  go_wp2_with (go_at_call 60;(refine (must_no 10 _).mono ?_);rintro e w7 ⟨rfl,rfl⟩)
  exact ⟨rfl,CD.bad HR7.out HX6.out.mv.touch⟩
 have hR:=HR6.out
 rw [if_neg hx0] at hR
 have HR7:=Lib.hid hR
 have d1:decide ((0:Int)<x)=true:=by simp;omega
 have d2:decide (0<x)=true:=by simp;omega
 obtain ⟨fl,hfl⟩:∃ fl,fl=row.take A:=⟨_,rfl⟩
 obtain ⟨ol,hol⟩:∃ ol,ol=row.drop A:=⟨_,rfl⟩
 have HFO:=Lib.hid (And.intro hfl hol)
 have HI1:Hid (IS W6 (some ⟨b,off,none⟩) (zn fl)):=Lib.hid (by rw [hfl,←zn_take];exact is_take HI6.out A)
 have HI2:Hid (IS W6 (some ⟨b,off+A,none⟩) (zn ol)):=Lib.hid (by rw [hol,←zn_drop];exact is_drop HI6.out A)
 have HL1:Hid ((zn fl).length=A):=Lib.hid (by rw [zn_len,hfl,List.length_take,HROW.out.1];have:=HN.out;omega)
 have HL2:Hid ((zn ol).length=D):=Lib.hid (by rw [zn_len,hol,List.length_drop,HROW.out.1];have:=HN.out;omega)
 have HV1:Hid (Vd (zn fl)):=Lib.hid (zn_vd (fun y hy=>HROW.out.2 y (by rw [hfl] at hy;exact List.mem_of_mem_take hy)) (by have:=HL1.out;rw [zn_len] at this;omega))
 have HV2:Hid (Vd (zn ol)):=Lib.hid (zn_vd (fun y hy=>HROW.out.2 y (by rw [hol] at hy;exact List.mem_of_mem_drop hy)) (by have:=HL2.out;rw [zn_len] at this;omega))
 have HFIT:Hid (fits row A=(decide (room fl≤32768∧room ol≤32768) && whole fl && (whole ol || decide (many ol=0)))):=Lib.hid (by rw [hfl,hol];rfl)
 clear hR hx0 hfl hol HI6 HR6
 go_wp2_with (go_at_call 60;(with_reducible refine (must_yes _ _).mono ?_);rintro e w7 ⟨rfl,rfl⟩)
 clear d1 d2 q6 e7
 by_cases c1':32768<room fl
 ·have c1:¬room fl≤32768:=by omega
  have HR8:Hid (R = .bad 10):=Lib.hid (by have:=HR7.out;rw [HFIT.out] at this;rw [this,if_neg (by simp [c1])])
  refine (codeOf_no (some ⟨b,off,none⟩) c7 A (zn fl) _ HI1.out HL1.out HV1.out (by rw [zn_nat];omega)).mono ?_
  rintro e w7 ⟨rfl,hb⟩
  have HX7:=Lib.hid (HX6.out.grow hb)
  clear c1 c1' hb
  go_wp2
  exact ⟨rfl,CD.bad HR8.out HX7.out.mv.touch⟩
 have c1:room fl≤32768:=by omega
 refine (codeOf_yes (some ⟨b,off,none⟩) c7 A (zn fl) _ HI1.out HL1.out HV1.out (by rw [zn_nat];exact c1)).mono ?_
 rintro e w7 ⟨p1,rfl,hc1,hb⟩
 rw [zn_nat] at hc1
 have HX7:=Lib.hid (HX6.out.grow hb)
 have HC1:=Lib.hid hc1
 have HJ1:=Lib.hid (HI1.out.below hb)
 have HJ2:=Lib.hid (HI2.out.below hb)
 clear hc1 hb HI1 HI2 HX6
 go_wp2_with fail
 by_cases c2':32768<room ol
 ·have c2:¬room ol≤32768:=by omega
  have HR8:Hid (R = .bad 10):=Lib.hid (by have:=HR7.out;rw [HFIT.out] at this;rw [this,if_neg (by simp [c2])])
  refine (codeOf_no (some ⟨b,off+A,none⟩) (c7-A) D (zn ol) _ HJ2.out HL2.out HV2.out (by rw [zn_nat];omega)).mono ?_
  rintro e w8 ⟨rfl,hb⟩
  have HX8:=Lib.hid (HX7.out.grow hb)
  clear c1 c2 c1' c2' hb
  go_wp2
  exact ⟨rfl,CD.bad HR8.out HX8.out.mv.touch⟩
 have c2:room ol≤32768:=by omega
 refine (codeOf_yes (some ⟨b,off+A,none⟩) (c7-A) D (zn ol) _ HJ2.out HL2.out HV2.out (by rw [zn_nat];exact c2)).mono ?_
 rintro e w8 ⟨p2,rfl,hc2,hb⟩
 rw [zn_nat] at hc2
 have hA8:Below w8.heap.size w8 (w8.alloc (.cells #[.pointer (some ⟨p1,0,none⟩),.pointer (some ⟨p2,0,none⟩)] 111)):=(Below.refl _ w8).alloc (Nat.le_refl _) _
 have HX8:=Lib.hid ((HX7.out.grow hb).grow hA8)
 have HD1:=Lib.hid ((HC1.out.below hb).below hA8)
 have HD2:=Lib.hid (hc2.below hA8)
 have HK1:=Lib.hid ((HJ1.out.below hb).below hA8)
 have HK2:=Lib.hid ((HJ2.out.below hb).below hA8)
 have HQ:Hid (Blk (w8.alloc (.cells #[.pointer (some ⟨p1,0,none⟩),.pointer (some ⟨p2,0,none⟩)] 111)) w8.heap.size 111 #[.pointer (some ⟨p1,0,none⟩),.pointer (some ⟨p2,0,none⟩)]):=Lib.hid (Blk.made _ _ _)
 have HCC:Hid (room fl≤32768∧room ol≤32768):=Lib.hid ⟨c1,c2⟩
 clear hc2 hb hA8 HX7 HC1 HJ1 HJ2 c1 c2 c1' c2'
 go_wp2_with fail
 obtain ⟨q,hq⟩:∃ q,q=w8.heap.size:=⟨_,rfl⟩
 obtain ⟨W8,hW8⟩:∃ W8,W8=w8.alloc (.cells #[.pointer (some ⟨p1,0,none⟩),.pointer (some ⟨p2,0,none⟩)] 111):=⟨_,rfl⟩
 rw [←hW8,←hq] at HQ ⊢
 rw [←hW8] at HX8 HD1 HD2 HK1 HK2
 clear hq hW8
 refine (isFull_zn p1 (some ⟨b,off,none⟩) c7 A fl _ HD1.out HK1.out HL1.out HV1.out).mono ?_
 rintro e w9 ⟨rfl,hb⟩
 have HX9:=Lib.hid (HX8.out.grow hb)
 have HE1:=Lib.hid (HD1.out.below hb)
 have HE2:=Lib.hid (HD2.out.below hb)
 have HK9:=Lib.hid (HK2.out.below hb)
 have HQ9:=Lib.hid (HQ.out.below hb)
 have q1:=(HQ.out.below hb).cell 1
 have q0:=(HQ.out.below hb).cell 0
 clear hb HX8 HD1 HD2 HK1 HK2 HQ
 have hBool:∀ x:Bool,x=true∨x=false:=fun x=>by cases x <;> simp
 obtain ⟨y1,hy1⟩:∃ y1,y1=whole fl:=⟨_,rfl⟩
 rw [←hy1]
 have HY1:=Lib.hid hy1
 clear hy1
 rcases hBool y1 with rfl | rfl
 ·go_wp2_with (go_at_call 60;(with_reducible refine (must_yes _ _).mono ?_);rintro e w7 ⟨rfl,rfl⟩)
  refine (isFull_zn p2 (some ⟨b,off+A,none⟩) (c7-A) D ol _ HE2.out HK9.out HL2.out HV2.out).mono ?_
  rintro e w10 ⟨rfl,hb⟩
  have HX10:=Lib.hid (HX9.out.grow hb)
  have HF1:=Lib.hid (HE1.out.below hb)
  have HF2:=Lib.hid (HE2.out.below hb)
  have HQ10:=Lib.hid (HQ9.out.below hb)
  have t0:=(HQ9.out.below hb).cell 0
  have t1:=(HQ9.out.below hb).cell 1
  have r0:=HX10.out.res.cell 0
  have r1:=HX10.out.res.cell 1
  have g0:=HX10.out.res.free 0
  have g1:=HX10.out.res.free 1
  clear hb HX9 HE1 HE2 HK9 q0 q1 hBool
  have FIN:Hid (R = .ok (fl,ol) s5→CD B K p pb g bs lim w ov R (.returned (.agg #[.pointer (some ⟨p1,0,none⟩),.pointer (some ⟨p2,0,none⟩)])) ((w10.setCell ⟨r,0,none⟩ (.pointer (some ⟨p1,0,none⟩))).setCell ⟨r,1,none⟩ (.pointer (some ⟨p2,0,none⟩)))):=Lib.hid fun hRe=>by
   have hts:Touch (fun k=>k=r) w10 ((w10.setCell ⟨r,0,none⟩ (.pointer (some ⟨p1,0,none⟩))).setCell ⟨r,1,none⟩ (.pointer (some ⟨p2,0,none⟩))):=((Touch.refl (fun k=>k=r) w10).setCell ⟨r,0,none⟩ _ (.inl rfl)).setCell ⟨r,1,none⟩ _ (.inl rfl)
   have hrw:w.heap.size≤r:=Nat.le_of_eq HRW.out.symm
   obtain ⟨f1,f2⟩:=item_end HX10.out.rs HX10.out.mv HX10.out.res (.inr ⟨.inr rfl,Nat.le_trans HKW.out hrw⟩) hrw hts
   have a1:=HF1.out.in_.aside HX10.out.res hts ⟨by decide,by decide,fun h=>absurd h (by decide)⟩
   have a2:=HF2.out.in_.aside HX10.out.res hts ⟨by decide,by decide,fun h=>absurd h (by decide)⟩
   subst hRe
   exact ⟨p1,p2,rfl,a1.at_,a2.at_,ov5,f1,f2⟩
  obtain ⟨y2,hy2⟩:∃ y2,y2=whole ol:=⟨_,rfl⟩
  rw [←hy2]
  have HY2:=Lib.hid hy2
  clear hy2
  have hBool:∀ x:Bool,x=true∨x=false:=fun x=>by cases x <;> simp
  rcases hBool y2 with rfl | rfl
  ·have HRE:Hid (R = .ok (fl,ol) s5):=Lib.hid (by
    have:=HR7.out
    rw [HFIT.out,←HY1.out,←HY2.out,←HFO.out.1,←HFO.out.2] at this
    rw [this,if_pos (by simp [HCC.out.1,HCC.out.2])])
   clear hBool
   go_wp2_with (go_at_call 60;(with_reducible refine (must_yes _ _).mono ?_);rintro e w7 ⟨rfl,rfl⟩)
   refine bodyPost_ret (v := .agg #[.pointer (some ⟨p1,0,none⟩),.pointer (some ⟨p2,0,none⟩)]) (by simp [results,Tryz.results64,go_sem,r0,r1]) rfl ?_
   exact FIN.out HRE.out
  ·have hS:=Symbols_any p2 ol w10 HF2.out
   obtain ⟨m,hm⟩:∃ m,m=many ol:=⟨_,rfl⟩
   rw [←hm] at hS
   have HS:=Lib.hid hS
   have HM:=Lib.hid hm
   clear hm hS hBool
   by_cases hm0:m=0
   ·have d1:((m:Int) == 0)=true:=by simp [hm0]
    have HRE:Hid (R = .ok (fl,ol) s5):=Lib.hid (by
     have:=HR7.out
     rw [HFIT.out,←HY1.out,←HY2.out,←HFO.out.1,←HFO.out.2,←HM.out] at this
     rw [this,if_pos (by simp [HCC.out.1,HCC.out.2,hm0])])
    clear hm0
    go_wp2_with (first
     | (go_at_call 104;(refine HS.out.mono ?_);rintro e w7 ⟨rfl,rfl⟩)
     | (go_at_call 60;(with_reducible refine (must_yes _ _).mono ?_);rintro e w7 ⟨rfl,rfl⟩))
    refine bodyPost_ret (v := .agg #[.pointer (some ⟨p1,0,none⟩),.pointer (some ⟨p2,0,none⟩)]) (by simp [results,Tryz.results64,go_sem,r0,r1]) rfl ?_
    exact FIN.out HRE.out
   ·have d1:((m:Int) == 0)=false:=by simp;omega
    have HRE:Hid (R = .bad 10):=Lib.hid (by
     have:=HR7.out
     rw [HFIT.out,←HY2.out,←HM.out] at this
     rw [this,if_neg (by simp [hm0])])
    clear hm0
    go_wp2_with (first
     | (go_at_call 104;(refine HS.out.mono ?_);rintro e w7 ⟨rfl,rfl⟩)
     | (go_at_call 60;(refine (must_no 10 _).mono ?_);rintro e w7 ⟨rfl,rfl⟩))
    exact ⟨rfl,CD.bad HRE.out HX10.out.mv.touch⟩
 ·have HRE:Hid (R = .bad 10):=Lib.hid (by
   have:=HR7.out
   rw [HFIT.out,←HY1.out] at this
   rw [this,if_neg (by simp)])
  clear hBool
  go_wp2_with (go_at_call 60;(refine (must_no 10 _).mono ?_);rintro e w7 ⟨rfl,rfl⟩)
  exact ⟨rfl,CD.bad HRE.out HX9.out.mv.touch⟩
end
end
section
variable {bs b':List Nat} {lim:Nat} {α β : Type}
theorem beg_pk {ls:List Nat} (H:Ok ls) {y a:Nat} (hy:ln ls y≠0):Beg ls (ahead bs a) y↔pk bs a (ln ls y)=rv (ln ls y) (cd ls y):=by
 constructor
 ·intro hb
  have hle:=ln_le H y
  have h2:=hb.2
  unfold ahead at h2
  have h3:=rv_div (ln ls y) (15-ln ls y) (pk bs a 15)
  rw [show ln ls y+(15-ln ls y)=15 by omega,h2] at h3
  rw [h3,rv_rv]
  unfold pk
  rw [Nat.mod_mod_of_dvd _ (Nat.pow_dvd_pow 2 hle)]
 ·intro h
  exact beg_of H hy h
def OkW (ls:List Nat):Prop:=Ok ls∧(room ls=32768∨∀ y,ln ls y≤1)
theorem rdS_some {ls:List Nat} {s:Sta} {y:Nat} (h0:¬s.at_=8*bs.length) (h:findB ls (ahead bs s.at_)=some y):rdS bs ls s=if s.at_+ln ls y≤8*bs.length then .ok y { s with at_:=s.at_+ln ls y } else .bad 15:=by
 unfold rdS;rw [if_neg h0,h]
theorem fixF_okW:OkW fixF:=⟨⟨by decide,by decide,by decide +kernel⟩,.inl (by decide +kernel)⟩
theorem fixO_okW:OkW fixO:=⟨⟨by decide,by decide,by decide +kernel⟩,.inl (by decide +kernel)⟩
end
end Go.Proofs.YtacpfpghokcdlaaGreatDoor
namespace Go.Proofs.YtacpfpghokcdlaaGreatDoor.V.M
set_option maxRecDepth 100000
structure Tok where
 lit:Nat
 len:Nat
 dist:Nat
def back (far:Nat):Nat→List Nat→List Nat
 | 0,l=>l
 | n+1,l=>back far n (l++[l.getD (l.length-far) 0])
theorem back_len (far n:Nat):∀ l,(back far n l).length=l.length+n:=by
 induction n with
 | zero=>intro l;rfl
 | succ n ih=>intro l;rw [back,ih];simp;omega
theorem back_succ (far n:Nat):∀ l,back far (n+1) l=back far n l++[(back far n l).getD ((back far n l).length-far) 0]:=by
 induction n with
 | zero=>intro l;rfl
 | succ n ih=>intro l;rw [back,ih];rfl
theorem back_take (far n:Nat) (l:List Nat):(back far n l).take l.length=l:=by
 induction n with
 | zero=>simp [back]
 | succ n ih=>
  rw [back_succ,List.take_append_of_le_length (by rw [back_len];omega)]
  exact ih
def Right (t:Tok):Prop:=(t.len=0∧t.dist=0)∨(3≤t.len∧t.len≤258∧1≤t.dist∧t.dist≤32768∧t.lit=0)
instance (t:Tok):Decidable (Right t):=inferInstanceAs (Decidable (_∨_))
def tells (t:Tok):Nat:=max t.len 1
theorem tells_pos (t:Tok):1≤tells t:=Nat.le_max_right _ _
def one (t:Tok) (l:List Nat):List Nat:=if t.len=0 then l++[t.lit] else back t.dist t.len l
theorem one_len (t:Tok) (l:List Nat):(one t l).length=l.length+tells t:=by
 unfold one tells
 split
 ·rename_i h;simp [h]
 ·rw [back_len];omega
theorem one_take (t:Tok) (l:List Nat):(one t l).take l.length=l:=by
 unfold one
 split
 ·simp
 ·exact back_take _ _ _
def ex:List Tok→List Nat→Option (List Nat)
 | [],l=>some l
 | t::ts,l=>if Right t∧t.dist≤l.length then ex ts (one t l) else none
theorem ex_append (x y:List Tok):∀ l,ex (x++y) l=(ex x l).bind (ex y):=by
 induction x with
 | nil=>intro l;rfl
 | cons t x ih=>
  intro l
  rw [List.cons_append,ex,ex]
  split
  ·exact ih _
  ·rfl
theorem ex_snoc {x:List Tok} {l m:List Nat} (h:ex x l=some m) (t:Tok):ex (x++[t]) l=if Right t∧t.dist≤m.length then some (one t m) else none:=by
 rw [ex_append,h]
 rfl
def sum (x:List Tok):Nat:=(x.map tells).sum
theorem sum_cons (t:Tok) (x:List Tok):sum (t::x)=tells t+sum x:=by simp [sum]
theorem sum_snoc (x:List Tok) (t:Tok):sum (x++[t])=sum x+tells t:=by simp [sum]
theorem len_le_sum (x:List Tok):x.length≤sum x:=by
 induction x with
 | nil=>exact Nat.le_refl _
 | cons t x ih=>rw [sum_cons,List.length_cons];have:=tells_pos t;omega
theorem ex_len {x:List Tok}:∀ {l m:List Nat},ex x l=some m→m.length=l.length+sum x:=by
 induction x with
 | nil=>intro l m h;cases h;rfl
 | cons t x ih=>
  intro l m h
  rw [ex] at h
  split at h
  ·rw [ih h,one_len,sum_cons];omega
  ·cases h
theorem ex_take {x:List Tok}:∀ {l m:List Nat},ex x l=some m→m.take l.length=l:=by
 induction x with
 | nil=>intro l m h;cases h;exact List.take_length
 | cons t x ih=>
  intro l m h
  rw [ex] at h
  split at h
  ·have h1:=ih h
   have h2:=one_take t l
   have h3:=one_len t l
   have:(m.take (one t l).length).take l.length=m.take l.length:=by rw [List.take_take,Nat.min_eq_left (by omega)]
   rw [←this,h1,h2]
  ·cases h
theorem ex_first {x:List Tok} {a:List Nat} (h:ex x []=some a) (k:Nat):ex (x.take k) []=some (a.take (sum (x.take k)))∧sum (x.take k)≤a.length:=by
 have h0:ex (x.take k++x.drop k) []=some a:=by rw [List.take_append_drop];exact h
 rw [ex_append] at h0
 cases h1:ex (x.take k) [] with
 | none=>rw [h1] at h0;cases h0
 | some m=>
  rw [h1] at h0
  have h2:ex (x.drop k) m=some a:=h0
  have h3:=ex_take h2
  have h4:=ex_len h1
  have h5:=ex_len h2
  simp at h4
  rw [←h4]
  exact ⟨by rw [h3],by omega⟩
def same (b:List Nat) (at_ dist:Nat):Nat→Nat
 | 0=>0
 | most+1=>if at_<b.length∧1≤dist∧dist≤at_∧b.getD at_ 0=b.getD (at_-dist) 0 then 1+same b (at_+1) dist most else 0
theorem same_le (b:List Nat) (dist:Nat):∀ most at_,same b at_ dist most≤most:=by
 intro most
 induction most with
 | zero=>intro at_;exact Nat.le_refl _
 | succ m ih=>intro at_;rw [same];split;have:=ih (at_+1);omega;omega
theorem same_end (b:List Nat) (dist:Nat):∀ most at_,at_≤b.length→at_+same b at_ dist most≤b.length:=by
 intro most
 induction most with
 | zero=>intro at_ h;exact h
 | succ m ih=>intro at_ h;rw [same];split;have:=ih (at_+1) (by omega);omega;omega
theorem same_at (b:List Nat) (dist:Nat):∀ most at_ k,k<same b at_ dist most→b.getD (at_+k) 0=b.getD (at_+k-dist) 0∧1≤dist∧dist≤at_:=by
 intro most
 induction most with
 | zero=>intro at_ k h;simp [same] at h
 | succ m ih=>
  intro at_ k h
  rw [same] at h
  split at h
  ·rename_i hc
   cases k with
   | zero=>exact ⟨hc.2.2.2,hc.2.1,hc.2.2.1⟩
   | succ k=>
    have:=ih (at_+1) k (by omega)
    rw [show at_+(k+1)=at_+1+k by omega]
    exact ⟨this.1,hc.2.1,hc.2.2.1⟩
  ·omega
theorem back_same (b:List Nat) (dist:Nat):∀ n at_,at_+n≤b.length→1≤dist→dist≤at_→(∀ k,k<n→b.getD (at_+k) 0=b.getD (at_+k-dist) 0)→back dist n (b.take at_)=b.take (at_+n):=by
 intro n
 induction n with
 | zero=>intro at_ _ _ _ _;rfl
 | succ n ih=>
  intro at_ hl h1 hd hs
  have hlen:(b.take at_).length=at_:=by rw [List.length_take];omega
  have h0:=hs 0 (by omega)
  have hstep:b.take at_++[(b.take at_).getD ((b.take at_).length-dist) 0]=b.take (at_+1):=by
   rw [hlen,List.take_succ_eq_append_getElem (by omega)]
   congr 2
   rw [Nat.add_zero] at h0
   have e1:b[at_]=b.getD at_ 0:=by rw [List.getD_eq_getElem?_getD,List.getElem?_eq_getElem (by omega)];rfl
   rw [e1,h0]
   simp only [List.getD_eq_getElem?_getD]
   rw [List.getElem?_take_of_lt (by omega)]
  rw [back,hstep,ih (at_+1) (by omega) h1 (by omega) fun k hk=>by
   have:=hs (k+1) (by omega)
   rwa [show at_+(k+1)=at_+1+k by omega] at this]
  congr 1
  omega
theorem one_lit (b:List Nat) (at_:Nat) (h:at_<b.length):one ⟨b.getD at_ 0,0,0⟩ (b.take at_)=b.take (at_+1):=by
 unfold one
 rw [if_pos rfl,List.take_succ_eq_append_getElem h]
 congr 2
 rw [List.getD_eq_getElem?_getD,List.getElem?_eq_getElem h];rfl
theorem one_copy (b:List Nat) (at_ dist n:Nat) (hn:1≤n) (hl:at_+n≤b.length) (h1:1≤dist) (hd:dist≤at_) (hs:∀ k,k<n→b.getD (at_+k) 0=b.getD (at_+k-dist) 0):one ⟨0,n,dist⟩ (b.take at_)=b.take (at_+n):=by
 unfold one
 rw [if_neg (by show ¬n=0;omega)]
 exact back_same b dist n at_ hl h1 hd hs
def four (b:List Nat) (at_ d:Nat):Prop:=at_+4≤b.length∧1≤d∧d≤at_∧∀ k,k<4→b.getD (at_+k) 0=b.getD (at_+k-d) 0
def NoFour (b:List Nat):Prop:=∀ at_ d,d≤32768→¬four b at_ d
end Go.Proofs.YtacpfpghokcdlaaGreatDoor.V.M
namespace Go.Proofs.YtacpfpghokcdlaaGreatDoor
set_option maxRecDepth 100000
def val:List (Nat × Nat)→Nat
 | []=>0
 | c::r=>c.1+2^c.2*val r
def wid:List (Nat × Nat)→Nat
 | []=>0
 | c::r=>c.2+wid r
structure Str (bs:List Nat) (p:Nat) (cs:List (Nat × Nat)):Prop where
 is_:∃ R,num bs/2^p=val cs+2^wid cs*R
 len:p+wid cs≤8*bs.length
section
variable {bs:List Nat} {lim:Nat} {s:Sta}
theorem Str.next {p X k:Nat} {cs:List (Nat × Nat)} (h:Str bs p ((X,k)::cs)) (hX:X<2^k):pk bs p k=X∧p+k≤8*bs.length∧Str bs (p+k) cs:=by
 obtain ⟨⟨R,hR⟩,hl⟩:=h
 have e:num bs/2^p=X+2^k*(val cs+2^wid cs*R):=by
  rw [hR,val,wid,Nat.pow_add,Nat.mul_add,Nat.mul_assoc,Nat.add_assoc]
 simp only [wid] at hl
 refine ⟨?_,by omega,⟨R,?_⟩,by omega⟩
 ·unfold pk
  rw [e,Nat.add_mul_mod_self_left,Nat.mod_eq_of_lt hX]
 ·rw [Nat.pow_add,←Nat.div_div_eq_div_mul,e,Nat.add_mul_div_left _ _ (Nat.two_pow_pos k),Nat.div_eq_of_lt hX,Nat.zero_add]
theorem rdN_str {X k:Nat} {cs:List (Nat × Nat)} (h:Str bs s.at_ ((X,k)::cs)) (hX:X<2^k):rdN bs k s = .ok X { s with at_:=s.at_+k }∧Str bs (s.at_+k) cs:=by
 obtain ⟨h1,h2,h3⟩:=h.next hX
 refine ⟨?_,h3⟩
 unfold rdN
 rw [if_pos h2,h1]
def cp (ls:List Nat) (y:Nat):Nat × Nat:=(rv (ln ls y) (cd ls y),ln ls y)
theorem rdS_str {ls:List Nat} (H:Ok ls) {y:Nat} (hy:ln ls y≠0) {cs:List (Nat × Nat)} (h:Str bs s.at_ (cp ls y::cs)):rdS bs ls s = .ok y { s with at_:=s.at_+ln ls y }∧Str bs (s.at_+ln ls y) cs:=by
 obtain ⟨h1,h2,h3⟩:=h.next (rv_lt _ _)
 refine ⟨?_,h3⟩
 have hb:=(beg_pk H hy).2 h1
 rw [rdS_some (by omega) (findB_of H hb),if_pos h2]
theorem wid_app (l r:List (Nat × Nat)):wid (l++r)=wid l+wid r:=by
 induction l with
 | nil=>simp [wid]
 | cons c l ih=>simp only [List.cons_append,wid,ih];omega
theorem len_some {y b n:Nat} (h:lenOf y=some (b,n)):257≤y∧y≤285:=by
 unfold lenOf at h
 split at h
 ·cases h
 ·omega
theorem back_is (far:Nat):∀ n l,back far n l=V.M.back far n l:=by
 intro n
 induction n with
 | zero=>intro l;rfl
 | succ n ih=>intro l;exact ih _
def TokP (fl ol:List Nat) (t:V.M.Tok) (ps:List (Nat × Nat)):Prop:=
 (t.len=0∧t.lit<256∧ln fl t.lit≠0∧ps=[cp fl t.lit]) ∨
 (t.len≠0∧∃ y b n v d b2 n2 v2,lenOf y=some (b,n)∧v<2^n∧t.len=b+v∧disOf d=some (b2,n2)∧v2<2^n2∧t.dist=b2+v2∧ln fl y≠0∧ln ol d≠0∧ps=[cp fl y,(v,n),cp ol d,(v2,n2)])
def ToksP (fl ol:List Nat):List V.M.Tok→List (Nat × Nat)→Prop
 | [],ps=>ps=[]
 | t::r,ps=>∃ p1 p2,ps=p1++p2∧TokP fl ol t p1∧ToksP fl ol r p2
theorem syms_one {fl ol:List Nat} (H:Ok fl) (K:Ok ol) {t:V.M.Tok} {ps cs:List (Nat × Nat)} (hp:TokP fl ol t ps) (hd:t.dist≤s.out.length) (h:Str bs s.at_ (ps++cs)) (hlim:s.out.length+V.M.tells t≤lim) :
  syms bs lim fl ol s=syms bs lim fl ol ⟨s.at_+wid ps,V.M.one t s.out,s.steps+1,s.blocks⟩∧Str bs (s.at_+wid ps) cs:=by
 have hin:s.at_≤8*bs.length:=by have:=h.len;omega
 have h1t:=V.M.tells_pos t
 rcases hp with ⟨h0,h8,hn,rfl⟩ | ⟨h0,y,b,n,v,d,b2,n2,v2,hy,hv,hl,hd2,hv2,hdd,hny,hnd,rfl⟩
 ·obtain ⟨r1,S1⟩:=rdS_str H hn (cs:=cs) (by simpa using h)
  rw [syms_eq hin,r1,Res.bind_ok,if_pos h8,if_neg (by simp only;omega)]
  simp only [wid,cp,Nat.add_zero]
  refine ⟨?_,S1⟩
  unfold V.M.one
  rw [if_pos h0]
 ·have hs1:=len_some hy
  obtain ⟨r1,S1⟩:=rdS_str H hny (cs:=(v,n)::cp ol d::(v2,n2)::cs) (by simpa using h)
  obtain ⟨r2,S2⟩:=rdN_str (s:=⟨s.at_+ln fl y,s.out,s.steps+1,s.blocks⟩) S1 hv
  obtain ⟨r3,S3⟩:=rdS_str (s:=⟨s.at_+ln fl y+n,s.out,s.steps+1,s.blocks⟩) K hnd S2
  obtain ⟨r4,S4⟩:=rdN_str (s:=⟨s.at_+ln fl y+n+ln ol d,s.out,s.steps+1,s.blocks⟩) S3 hv2
  rw [syms_eq hin,r1,Res.bind_ok,if_neg (by omega),if_neg (by omega)]
  have hag:again bs lim ol y ⟨s.at_+ln fl y,s.out,s.steps+1,s.blocks⟩ = .ok () ⟨s.at_+ln fl y+n+ln ol d+n2,back (b2+v2) (b+v) s.out,s.steps+1,s.blocks⟩:=by
   unfold again
   rw [hy]
   unfold grown
   simp only
   rw [r2,Res.bind_ok,Res.bind_ok,r3,Res.bind_ok,hd2]
   simp only
   rw [r4,Res.bind_ok,Res.bind_ok]
   have hT:V.M.tells t=t.len:=by unfold V.M.tells;omega
   simp only
   rw [if_neg (by omega),if_neg (by omega)]
  simp only
  rw [hag,Res.bind_ok]
  simp only [wid,cp]
  rw [show s.at_+(ln fl y+(n+(ln ol d+(n2+0))))=s.at_+ln fl y+n+ln ol d+n2 by omega]
  refine ⟨?_,S4⟩
  unfold V.M.one
  rw [if_neg h0,hl,hdd,back_is]
theorem syms_all {fl ol:List Nat} (H:Ok fl) (K:Ok ol) (h256:ln fl 256≠0) (cs:List (Nat × Nat)):∀ (r:List V.M.Tok) (ps:List (Nat × Nat)) (s:Sta) (m:List Nat),ToksP fl ol r ps→V.M.ex r s.out=some m→m.length≤lim→Str bs s.at_ (ps++cp fl 256::cs)→
  syms bs lim fl ol s = .ok () ⟨s.at_+wid ps+ln fl 256,m,s.steps+r.length+1,s.blocks⟩∧Str bs (s.at_+wid ps+ln fl 256) cs:=by
 intro r
 induction r with
 | nil=>
  intro ps s m hp he _ h
  cases hp
  cases he
  have hin:s.at_≤8*bs.length:=by have:=h.len;omega
  obtain ⟨r1,S1⟩:=rdS_str H h256 (cs:=cs) (by simpa using h)
  rw [syms_eq hin,r1,Res.bind_ok,if_neg (by decide),if_pos rfl]
  exact ⟨rfl,S1⟩
 | cons t r ih=>
  intro ps s m hp he hl h
  obtain ⟨p1,p2,rfl,h1,h2⟩:=hp
  rw [V.M.ex] at he
  split at he
  ·rename_i hr
   have hml:=V.M.ex_len he
   rw [V.M.one_len] at hml
   obtain ⟨e1,S1⟩:=syms_one (lim:=lim) H K h1 hr.2 (cs:=p2++cp fl 256::cs) (by simpa using h) (by omega)
   obtain ⟨e2,S2⟩:=ih p2 ⟨s.at_+wid p1,V.M.one t s.out,s.steps+1,s.blocks⟩ m h2 he hl S1
   rw [e1,e2,wid_app,List.length_cons]
   simp only at S2
   rw [show s.at_+(wid p1+wid p2)+ln fl 256=s.at_+wid p1+wid p2+ln fl 256 by omega,show s.steps+(r.length+1)+1=s.steps+1+r.length+1 by omega]
   exact ⟨rfl,S2⟩
  ·cases he
def itmP (own:List Nat) (x:Nat × Nat):List (Nat × Nat):=if 16≤x.1∧x.1≤18 then [cp own x.1,(x.2,xb x.1)] else [cp own x.1]
def ItmOk (own:List Nat) (x:Nat × Nat):Prop:=ln own x.1≠0∧(16≤x.1∧x.1≤18→x.2<2^xb x.1)∧(¬(16≤x.1∧x.1≤18)→x.2=0)
theorem itm_str {own:List Nat} (H:Ok own) {x:Nat × Nat} (hx:ItmOk own x) {cs:List (Nat × Nat)} (h:Str bs s.at_ (itmP own x++cs)):itm bs own s = .ok x { s with at_:=s.at_+wid (itmP own x) }∧Str bs (s.at_+wid (itmP own x)) cs:=by
 obtain ⟨y,v⟩:=x
 obtain ⟨h1,h2,h3⟩:=hx
 simp only at h1 h2 h3
 unfold itmP at h ⊢
 by_cases c:16≤y∧y≤18
 ·rw [if_pos c] at h ⊢
  obtain ⟨r1,S1⟩:=rdS_str H h1 (cs:=(v,xb y)::cs) (by simpa using h)
  obtain ⟨r2,S2⟩:=rdN_str (s:={ s with at_:=s.at_+ln own y }) S1 (h2 c)
  unfold itm
  rw [r1,Res.bind_ok,if_pos c,r2,Res.bind_ok]
  simp only [wid,cp]
  rw [show s.at_+(ln own y+(xb y+0))=s.at_+ln own y+xb y by omega]
  exact ⟨rfl,S2⟩
 ·rw [if_neg c] at h ⊢
  obtain ⟨r1,S1⟩:=rdS_str H h1 (cs:=cs) (by simpa using h)
  unfold itm
  rw [r1,Res.bind_ok,if_neg c,h3 c]
  simp only [wid,cp,Nat.add_zero]
  exact ⟨by first | rfl | trivial,S1⟩
def unT:List (Nat × Nat)→List Nat→Option (List Nat)
 | [],row=>some row
 | x::r,row=>match told x.1 x.2 row with | none=>none | some t=>unT r (row++t)
theorem unT_len:∀ {its:List (Nat × Nat)} {row full:List Nat},unT its row=some full→row.length≤full.length:=by
 intro its
 induction its with
 | nil=>intro row full h;cases h;exact Nat.le_refl _
 | cons x r ih=>
  intro row full h
  rw [unT] at h
  split at h
  ·cases h
  ·have:=ih h
   rw [List.length_append] at this
   omega
theorem told_pos {y v:Nat} {row t:List Nat} (h:told y v row=some t):1≤t.length:=by
 unfold told at h
 split at h
 ·cases h;simp
 ·split at h
  ·split at h
   ·cases h
   ·cases h;simp;omega
  ·split at h
   ·cases h;simp;omega
   ·split at h
    ·cases h;simp;omega
    ·cases h
theorem lens_str {own:List Nat} (H:Ok own) {n:Nat} {full:List Nat} (hn:full.length=n) (cs:List (Nat × Nat)):∀ (its:List (Nat × Nat)) (row:List Nat) (s:Sta),(∀ x∈its,ItmOk own x)→unT its row=some full→its≠[]→
  Str bs s.at_ (its.flatMap (itmP own)++cs)→run (8*bs.length) (len1 bs own n) row s = .ok full { s with at_:=s.at_+wid (its.flatMap (itmP own)) }∧Str bs (s.at_+wid (its.flatMap (itmP own))) cs:=by
 intro its
 induction its with
 | nil=>intro row s _ _ h;exact absurd rfl h
 | cons x r ih=>
  intro row s ho hu _ h
  rw [unT] at hu
  cases ht:told x.1 x.2 row with
  | none=>rw [ht] at hu;cases hu
  | some t=>
   rw [ht] at hu
   simp only at hu
   rw [List.flatMap_cons,List.append_assoc] at h
   have hin:s.at_≤8*bs.length:=by have:=h.len;omega
   obtain ⟨e1,S1⟩:=itm_str H (ho x (List.mem_cons_self ..)) h
   have hle:=unT_len hu
   have hnx:len1 bs own n row s = .ok (decide ((row++t).length=n),row++t) { s with at_:=s.at_+wid (itmP own x) }:=by
    unfold len1
    rw [e1,Res.bind_ok,ht]
    simp only
    rw [if_neg (by omega)]
   rw [run_eq (len1_takes own n) row hin,hnx,Res.bind_ok,List.flatMap_cons,wid_app]
   simp only [decide_eq_true_eq]
   by_cases hr:r=[]
   ·subst hr
    cases hu
    rw [if_pos hn]
    simp only [List.flatMap_nil,wid,Nat.add_zero]
    exact ⟨by first | rfl | trivial,by simpa using S1⟩
   ·have hlt:¬(row++t).length=n:=by
     obtain ⟨z,r2,rfl⟩:=List.exists_cons_of_ne_nil hr
     rw [unT] at hu
     cases ht2:told z.1 z.2 (row++t) with
     | none=>rw [ht2] at hu;cases hu
     | some t2=>
      rw [ht2] at hu
      have h4:=unT_len hu
      have h5:=told_pos ht2
      rw [List.length_append] at h4
      omega
    rw [if_neg hlt]
    obtain ⟨e2,S2⟩:=ih (row++t) { s with at_:=s.at_+wid (itmP own x) } (fun z hz=>ho z (List.mem_cons_of_mem _ hz)) hu hr S1
    rw [e2,←Nat.add_assoc]
    exact ⟨rfl,S2⟩
theorem rdO_str (cs:List (Nat × Nat)):∀ (o l:List Nat) (s:Sta),(∀ x∈o,x<8)→Str bs s.at_ (o.map (fun x=>(x,3))++cs)→rdO bs o.length l s = .ok (l++o) { s with at_:=s.at_+3*o.length }∧Str bs (s.at_+3*o.length) cs:=by
 intro o
 induction o with
 | nil=>intro l s _ h;exact ⟨by simp [rdO],by simpa using h⟩
 | cons x o ih=>
  intro l s ho h
  obtain ⟨r1,S1⟩:=rdN_str (s:=s) (X:=x) (k:=3) (cs:=o.map (fun x=>(x,3))++cs) (by simpa using h) (ho x (List.mem_cons_self ..))
  obtain ⟨r2,S2⟩:=ih (l++[x]) { s with at_:=s.at_+3 } (fun z hz=>ho z (List.mem_cons_of_mem _ hz)) S1
  rw [List.length_cons,rdO,r1,Res.bind_ok,r2]
  simp only at S2
  rw [show s.at_+3*(o.length+1)=s.at_+3+3*o.length by omega]
  exact ⟨by simp,S2⟩
def codP (fl ol o:List Nat) (its:List (Nat × Nat)):List (Nat × Nat):=(fl.length-257,5)::(ol.length-1,5)::(o.length-4,4)::(o.map (fun x=>(x,3))++its.flatMap (itmP (ownOf o)))
theorem codes_str {fl ol o:List Nat} {its cs:List (Nat × Nat)} (hf:257≤fl.length∧fl.length≤286) (hol:1≤ol.length∧ol.length≤30) (ho:4≤o.length∧o.length≤19) (ho8:∀ x∈o,x<8) (H:Ok (ownOf o)) (hroom:room (ownOf o)=32768)
  (hits:∀ x∈its,ItmOk (ownOf o) x) (hu:unT its []=some (fl++ol)) (h256:(fl++ol).getD 256 0≠0) (hfit:fits (fl++ol) fl.length=true) (h:Str bs s.at_ (codP fl ol o its++cs)) :
  codes bs s = .ok (fl,ol) { s with at_:=s.at_+wid (codP fl ol o its) }∧Str bs (s.at_+wid (codP fl ol o its)) cs:=by
 have hne:its≠[]:=fun e=>by
  subst e
  have h1:=congrArg List.length (Option.some.inj hu)
  rw [List.length_append] at h1
  have h2:([]:List Nat).length=0:=rfl
  omega
 unfold codP at h ⊢
 obtain ⟨r1,S1⟩:=rdN_str (s:=s) h (by omega)
 obtain ⟨r2,S2⟩:=rdN_str (s:={ s with at_:=s.at_+5 }) S1 (by omega)
 obtain ⟨r3,S3⟩:=rdN_str (s:={ s with at_:=s.at_+5+5 }) S2 (by omega)
 obtain ⟨r4,S4⟩:=rdO_str (its.flatMap (itmP (ownOf o))++cs) o [] { s with at_:=s.at_+5+5+4 } ho8 (by simpa using S3)
 obtain ⟨r5,S5⟩:=lens_str H (n:=(fl++ol).length) rfl cs its [] { s with at_:=s.at_+5+5+4+3*o.length } hits hu hne S4
 have hw3:∀ l:List Nat,wid (l.map fun x=>(x,3))=3*l.length:=fun l=>by
  induction l with
  | nil=>rfl
  | cons x l ih=>simp only [List.map_cons,wid,ih,List.length_cons];omega
 have ew:wid ((fl.length-257,5)::(ol.length-1,5)::(o.length-4,4)::(o.map (fun x=>(x,3))++its.flatMap (itmP (ownOf o))))=5+5+4+3*o.length+wid (its.flatMap (itmP (ownOf o))):=by
  simp only [wid,wid_app,hw3];omega
 rw [ew]
 unfold codes
 rw [r1,Res.bind_ok,r2,Res.bind_ok,r3,Res.bind_ok,if_neg (by omega),show 4+(o.length-4)=o.length by omega,r4,Res.bind_ok,List.nil_append,if_neg (by omega)]
 unfold lens
 have en:258+(fl.length-257)+(ol.length-1)=(fl++ol).length:=by rw [List.length_append];omega
 rw [en,r5,Res.bind_ok,if_neg h256,show 257+(fl.length-257)=fl.length by omega,if_pos hfit,List.take_left,List.drop_left]
 rw [show s.at_+(5+5+4+3*o.length+wid (its.flatMap (itmP (ownOf o))))=s.at_+5+5+4+3*o.length+wid (its.flatMap (itmP (ownOf o))) by omega]
 exact ⟨rfl,S5⟩
theorem blk1_own (hL:Nat) {fl ol o m:List Nat} {its ps cs:List (Nat × Nat)} {r:List V.M.Tok} (hf:257≤fl.length∧fl.length≤286) (hol:1≤ol.length∧ol.length≤30) (ho:4≤o.length∧o.length≤19) (ho8:∀ x∈o,x<8) (H:Ok (ownOf o)) (hroom:room (ownOf o)=32768)
  (hits:∀ x∈its,ItmOk (ownOf o) x) (hu:unT its []=some (fl++ol)) (h256:ln fl 256≠0) (h256':(fl++ol).getD 256 0≠0) (hfit:fits (fl++ol) fl.length=true) (Hf:Ok fl) (Ho:Ok ol) (hl:hL<2)
  (hp:ToksP fl ol r ps) (he:V.M.ex r s.out=some m) (hm:m.length≤lim) (h:Str bs s.at_ ((hL,1)::(2,2)::(codP fl ol o its++(ps++cp fl 256::cs)))) :
  blk1 bs lim () s = .ok (decide (hL=1),()) ⟨s.at_+3+wid (codP fl ol o its)+wid ps+ln fl 256,m,s.steps+r.length+1,s.blocks+1⟩∧Str bs (s.at_+3+wid (codP fl ol o its)+wid ps+ln fl 256) cs:=by
 obtain ⟨r1,S1⟩:=rdN_str (s:=s) h (by omega)
 obtain ⟨r2,S2⟩:=rdN_str (s:={ s with at_:=s.at_+1 }) S1 (by decide)
 obtain ⟨r3,S3⟩:=codes_str (s:={ s with at_:=s.at_+1+2 }) hf hol ho ho8 H hroom hits hu h256' hfit S2
 obtain ⟨r4,S4⟩:=syms_all (lim:=lim) Hf Ho h256 cs r ps { s with at_:=s.at_+1+2+wid (codP fl ol o its) } m hp he hm S3
 unfold blk1 blk
 rw [r1,Res.bind_ok,r2,Res.bind_ok,if_neg (by decide),if_neg (by decide),if_pos rfl,r3,Res.bind_ok]
 simp only
 rw [r4,Res.bind_ok]
 exact ⟨rfl,S4⟩
theorem blk1_fix (hL:Nat) {m:List Nat} {ps cs:List (Nat × Nat)} {r:List V.M.Tok} (hl:hL<2) (hp:ToksP fixF fixO r ps) (he:V.M.ex r s.out=some m) (hm:m.length≤lim) (h:Str bs s.at_ ((hL,1)::(1,2)::(ps++cp fixF 256::cs))) :
  blk1 bs lim () s = .ok (decide (hL=1),()) ⟨s.at_+3+wid ps+7,m,s.steps+r.length+1,s.blocks+1⟩∧Str bs (s.at_+3+wid ps+7) cs:=by
 obtain ⟨r1,S1⟩:=rdN_str (s:=s) h (by omega)
 obtain ⟨r2,S2⟩:=rdN_str (s:={ s with at_:=s.at_+1 }) S1 (by decide)
 obtain ⟨r4,S4⟩:=syms_all (lim:=lim) fixF_okW.1 fixO_okW.1 (by decide +kernel) cs r ps { s with at_:=s.at_+1+2 } m hp he hm S2
 have e7:ln fixF 256=7:=by decide +kernel
 rw [e7] at r4 S4
 unfold blk1 blk
 rw [r1,Res.bind_ok,r2,Res.bind_ok,if_neg (by decide),if_pos rfl,r4,Res.bind_ok]
 exact ⟨rfl,S4⟩
inductive Chain (bs:List Nat) (lim:Nat):Sta→Sta→Prop where
 | last {s t:Sta} (h:blk1 bs lim () s = .ok (true,()) t):Chain bs lim s t
 | more {s u t:Sta} (h:blk1 bs lim () s = .ok (false,()) u) (k:Chain bs lim u t):Chain bs lim s t
theorem Chain.run (hb:Bs bs) {t:Sta} (hs:s.at_≤8*bs.length) (h:Chain bs lim s t):Go.Proofs.YtacpfpghokcdlaaGreatDoor.run (8*bs.length) (blk1 bs lim) () s = .ok () t:=by
 induction h with
 | last h=>rw [run_eq (blk1_takes hb) () hs,h];rfl
 | more h k ih=>
  have:=blk1_takes hb () _ _ _ hs h
  rw [run_eq (blk1_takes hb) () hs,h,Res.bind_ok]
  exact ih this.2
theorem Chain.infl (hb:Bs bs) {t:Sta} (h:Chain bs lim st0 t):Go.Proofs.YtacpfpghokcdlaaGreatDoor.infl bs lim = .ok () t:=h.run hb (Nat.zero_le _)
end
end Go.Proofs.YtacpfpghokcdlaaGreatDoor
