/- Part 15. -/
import Derived.RegionDies
import Derived.Test.YthbbpooobaahiaaGreatDoorXB14
namespace Go.Proofs.YthbbpooobaahiaaGreatDoor.Zz
set_option maxRecDepth 100000
section
open Go.RowKit
theorem own_cellsAt {w:World} {base e size:Nat} {v:Value} {n:Nat} {xs:List Value} (h:w.ownsRow base e size v n xs):CellsAt w v n xs:=by
 rcases h.2 with ⟨h1,h0⟩ | ⟨g,cap,cur,h1,_⟩
 ·subst h0
  exact .inl ⟨h1,rfl,List.eq_nil_of_length_eq_zero (by rw [h.1,Nat.zero_mul])⟩
 ·exact .inr ⟨⟨g,0,none⟩,cap,h1,fun j u hu=>h.cells (by rw [h1];rfl) j u hu⟩
theorem cells_blk (w:World) (e:TypeId) (cs:Array Value):CellsAt (w.alloc (.cells cs e)) (.slice (some ⟨w.heap.size,0,none⟩) 1 1) 1 cs.toList:=by
 refine .inr ⟨_,_,rfl,fun j u hu=>?_⟩
 rw [Addr.add_lit,World.cell?_alloc_at _ _ _ _ rfl]
 simpa using hu
theorem step_append_g {t e:Nat} {z:Value} {size bytes:Nat} (T:AT t e z size bytes) {ops:Array Oper} {o:Oper} {a:Act} {w:World} {K:Act→World→Prop} {Q:Exit→Act→World→Prop} {E:Prop}
  (hg:o.guard=none) (s x:Operand) (hop:o.op=Op.call { callee:=Callee.builtin Builtin.append,args := #[s,x],argTypes := #[t,t] })
  (base:Nat) (v sv:Value) (n m:Nat) (xs ys:List Value) (hs:a.eval s=v) (hx:a.eval x=sv) (hown:w.ownsRow base e size v n xs) (hsrc:CellsAt w sv m ys)
  (hyl:ys.length=m*size) (h1:∀ u∈ys,u.oneCell'=true) (hbase:base≤w.heap.size) (hl:n+m≤140737488355328) (hby:(n+m)*bytes≤140737488355328)
  (hK:∀ ao c w',Apg w base e size v (n+m) (xs++ys) (.slice ao (n+m) c) w'→K (a.put o.dst (.slice ao (n+m) c)) w') :
  if Region.wanted o (yielded ops a.tmps)=true then Oper.wp Tryz.prog o a w K Q else E:=by
 have hw:Region.wanted o (yielded ops a.tmps)=true:=by simp [Region.wanted,hg]
 rw [if_pos hw]
 obtain ⟨v',w',hrun,hA⟩:=run_append_g T w o.type hown hsrc hyl h1 hbase hl hby
 obtain ⟨ao,c,rfl⟩:=own_shape hA.own
 unfold Oper.wp
 simp [execOp,hop,resolve,invoke,builtin,hs,hx,hrun,Result.andThen]
 have h:=hK ao c w' hA
 exact h
theorem spotsE_app (ys:List Nat) (a b:List Rw):spotsE ys (a++b)=if spotsE ys a≠0 then spotsE ys a else spotsE ys b:=by
 induction a with
 | nil=>simp [spotsE]
 | cons r t ih=>
  rw [List.cons_append,spotsE,spotsE]
  by_cases h:spotE ys r≠0
  ·simp [h]
  ·simp only [h,if_false];exact ih
theorem spotsE_stop {ys:List Nat} {l:List Rw} {i er:Nat} (h:spotsE ys (l.take i)=0) (hi:i<l.length) (he:spotE ys l[i]=er) (h0:er≠0):spotsE ys l=er:=by
 conv=>lhs;rw [←List.take_append_drop i l,spotsE_app,h,List.drop_eq_getElem_cons hi,spotsE,he]
 simp [h0]
theorem spotsE_step {ys:List Nat} {l:List Rw} {i:Nat} (h:spotsE ys (l.take i)=0) (hi:i<l.length) (he:spotE ys l[i]=0):spotsE ys (l.take (i+1))=0:=by
 rw [List.take_succ_eq_append_getElem hi,spotsE_app,h,spotsE,he]
 simp [spotsE]
theorem spot_pos (ys:List Nat) (r:Rw):(spotS ys r).head<(spotS ys r).behind:=by
 unfold spotS
 simp only
 have h1:r.at_+30≤spData ys r:=by unfold spData;omega
 split
 ·unfold behindP;split <;> omega
 ·omega
def SpotsTo (ys:List Nat) (rs:List Rw) (w:World) (e:Ending) (w':World):Prop:=
 Below w.heap.size w w'∧((spotsE ys rs≠0∧e=zpan (spotsE ys rs))∨(spotsE ys rs=0∧clashP (rs.map (spotS ys))=true∧e=zpan 18) ∨
  (spotsE ys rs=0∧clashP (rs.map (spotS ys))=false∧∃ a c,e = .returned (.slice a rs.length c)∧w'.ownsRow w.heap.size 93 4 (.slice a rs.length c) rs.length (spc (rs.map (spotS ys)))))
theorem SpotsTo.bad {ys:List Nat} {rs:List Rw} {w w':World} (er:Nat) (h:spotsE ys rs=er) (h0:er≠0) (hb:Below w.heap.size w w'):SpotsTo ys rs w (zpan er) w':=⟨hb,.inl ⟨by rw [h];exact h0,by rw [h]⟩⟩
set_option maxHeartbeats 3200000 in
theorem spots_any (ao:Option Addr) (cap:Nat) (xs:List Nat) (f e:Nat) (base:Nat) (a1:Option Addr) (c1:Nat) (rs:List Rm) (w:World) (h:Cu.Sl w ao cap xs) (hR:Rms w base (.slice a1 rs.length c1) rs) (hfit:∀ x∈rs,Rfit x.r) (hf:f≤xs.length)
  (hm:xs.length≤1000000) (hn:rs.length≤65535) :
  Calls Tryz.prog 27 #[.agg #[.slice ao xs.length cap,.int .i64 (f:Nat),.int .i64 (e:Nat),.slice a1 rs.length c1]] w (SpotsTo (xs.take f) (rs.map (·.r)) w):=by
 obtain ⟨ys,hys⟩:∃ ys,ys=xs.take f:=⟨_,rfl⟩
 have hyl:ys.length=f:=by rw [hys,List.length_take];omega
 have hS0:Cu.Sl w ao cap ys:=by
  have:=h.cut' 0 f (by omega)
  rw [Cu.cutA_zero,Nat.sub_zero,List.drop_zero,←hys] at this
  exact this
 have hcap:=h.le
 have HSH:=fun W=>Cu.slice_h ao xs.length cap f (by omega) W
 rw [←hys]
 obtain ⟨n,hnn⟩:∃ n,n=rs.length:=⟨_,rfl⟩
 obtain ⟨w1,hw1⟩:∃ w1,w1=w.alloc (.cells #[.slice ao xs.length cap,.int .i64 (f:Nat),.int .i64 (e:Nat),.slice a1 n c1] 61):=⟨_,rfl⟩
 have hb1:Below w.heap.size w w1:=by rw [hw1];exact (Below.refl _ w).alloc (Nat.le_refl _) _
 have hz1:w1.heap.size=w.heap.size+1:=by rw [hw1,alloc_size]
 have HBox:Hid (Blk w1 w.heap.size 61 #[.slice ao xs.length cap,.int .i64 (f:Nat),.int .i64 (e:Nat),.slice a1 n c1]):=Lib.hid (by rw [hw1];exact Blk.made _ _ _)
 have HR:=Lib.hid (hR.below hb1)
 have HS:=Lib.hid (hS0.below hb1)
 have HF:=Lib.hid hfit
 have HN:=Lib.hid hnn
 have HYL:=Lib.hid hyl
 have HB1:=Lib.hid hb1
 have b0:=(HBox.out.cell 3).trans (show _=some (.slice a1 n c1) from rfl)
 obtain ⟨RS,hRS⟩:∃ RS,RS=rs.map (·.r):=⟨_,rfl⟩
 have HRS:=Lib.hid hRS
 have HLR:Hid (RS.length=n):=Lib.hid (by rw [hRS,List.length_map,hnn])
 rw [←hRS,←hnn]
 rw [←hnn] at hn
 clear h hR hfit hnn hyl hS0 hys hb1 hRS
 go_enter Tryz.func27,Tryz.ntmps27
 go_upto_region 2 with fail
 rw [←hw1]
 clear hw1
 go_wp2_with fail
 go_loopw [3,9] (fun v3 vi wr=>∃ (i:Nat) (a2:Option Addr) (c2:Nat),i≤n∧vi = .int .i64 i∧v3 = .slice a2 i c2∧Hid (spotsE ys (RS.take i)=0)∧Hid (wr.ownsRow w1.heap.size 93 4 (.slice a2 i c2) i (spc ((RS.take i).map (spotS ys))))∧Hid (Below w1.heap.size w1 wr)) (fun _ vi _=>n-(intOf vi).toNat)
 case atStart=>exact ⟨0,none,0,Nat.zero_le _,rfl,rfl,Lib.hid rfl,Lib.hid (World.ownsRow_nil _ _ _ _),Lib.hid (Below.refl _ _)⟩
 case round=>
  obtain ⟨i,a2,c2,hi,rfl,rfl,hE0,hown,hbel⟩:=hrel
  by_cases hlt:i<n
  ·have hii:(i:Int)<n:=by omega
   have hil:i<rs.length:=by rw [←HN.out];exact hlt
   obtain ⟨g,cg,hv,hgw,hcell⟩:=(HR.out.below hbel.out).at hil
   obtain ⟨x,hx⟩:∃ x,x=rs[i]:=⟨_,rfl⟩
   rw [←hx] at hcell
   have hxm:Rfit x.r:=HF.out x (by rw [hx];exact List.getElem_mem _)
   have HXR:Hid (RS[i]'(by rw [HLR.out];exact hlt)=x.r):=Lib.hid (by simp only [HRS.out,List.getElem_map];rw [←hx])
   obtain ⟨r,ra,rc⟩:=x
   obtain rfl:a1=some ⟨g,0,none⟩:=by
    injection hv
   have c0:wr.cell? ⟨g,i*11,none⟩=some (.string r.name):=hcell 0 _ rfl
   have c1':wr.cell? ⟨g,i*11+1,none⟩=some (.int .i64 (r.flags:Nat)):=hcell 1 _ rfl
   have c2':wr.cell? ⟨g,i*11+2,none⟩=some (.int .i64 (r.method:Nat)):=hcell 2 _ rfl
   have c3:wr.cell? ⟨g,i*11+3,none⟩=some (.int .i64 (r.time:Nat)):=hcell 3 _ rfl
   have c4:wr.cell? ⟨g,i*11+4,none⟩=some (.int .i64 (r.date:Nat)):=hcell 4 _ rfl
   have c5:wr.cell? ⟨g,i*11+5,none⟩=some (.int .i64 (r.packed:Nat)):=hcell 5 _ rfl
   have c6:wr.cell? ⟨g,i*11+6,none⟩=some (.int .i64 (r.plain:Nat)):=hcell 6 _ rfl
   have c7:wr.cell? ⟨g,i*11+7,none⟩=some (.int .i64 (r.at_:Nat)):=hcell 7 _ rfl
   have c8:wr.cell? ⟨g,i*11+8,none⟩=some (.int .i64 (r.extra:Nat)):=hcell 8 _ rfl
   have c9:wr.cell? ⟨g,i*11+9,none⟩=some (.int .u32 (r.sum:Nat)):=hcell 9 _ rfl
   have c10:wr.cell? ⟨g,i*11+10,none⟩=some (.slice ra r.remark.length rc):=hcell 10 _ rfl
   clear hcell hx hv
   have hbz:Below wr.heap.size wr (wr.alloc (.cells (rcl r ra rc) 49)):=(Below.refl _ wr).alloc (Nat.le_refl _) _
   have HQ:=Lib.hid (Blk.made wr 49 (rcl r ra rc))
   have HBX:=Lib.hid (hbel.out.trans (hbz.mono hbel.out.size))
   have hown':=(ownsRow_touch hown.out (Touch.of_below hbz:Touch (fun _=>False) wr (wr.alloc (.cells (rcl r ra rc) 49))) (fun _ _ h=>h))
   have K48:=spotOf_any r ra rc ao cap ys (wr.alloc (.cells (rcl r ra rc) 49)).drew hxm (HS.out.below (HBX.out.trans (below_drewN (Below.refl _ _) 1))) (by rw [HYL.out];omega)
   rw [HYL.out] at K48
   go_upto_region 5 with fail
   obtain ⟨wz,hwz⟩:∃ wz,wz=wr.alloc (.cells (rcl r ra rc) 49):=⟨_,rfl⟩
   rw [←hwz] at HQ HBX K48 hown' ⊢
   have HOW:=Lib.hid hown'
   have q0:=(HQ.out.cell 0).trans (show _=some (.string r.name) from rfl)
   have q1:=(HQ.out.cell 1).trans (show _=some (.int .i64 (r.flags:Nat)) from rfl)
   have q2:=(HQ.out.cell 2).trans (show _=some (.int .i64 (r.method:Nat)) from rfl)
   have q3:=(HQ.out.cell 3).trans (show _=some (.int .i64 (r.time:Nat)) from rfl)
   have q4:=(HQ.out.cell 4).trans (show _=some (.int .i64 (r.date:Nat)) from rfl)
   have q5:=(HQ.out.cell 5).trans (show _=some (.int .i64 (r.packed:Nat)) from rfl)
   have q6:=(HQ.out.cell 6).trans (show _=some (.int .i64 (r.plain:Nat)) from rfl)
   have q7:=(HQ.out.cell 7).trans (show _=some (.int .i64 (r.at_:Nat)) from rfl)
   have q8:=(HQ.out.cell 8).trans (show _=some (.int .i64 (r.extra:Nat)) from rfl)
   have q9:=(HQ.out.cell 9).trans (show _=some (.int .u32 (r.sum:Nat)) from rfl)
   have q10:=(HQ.out.cell 10).trans (show _=some (.slice ra r.remark.length rc) from rfl)
   have hbox:=HBox.out.below HBX.out
   have p0:=(hbox.cell 0).trans (show _=some (.slice ao xs.length cap) from rfl)
   have p1:=(hbox.cell 1).trans (show _=some (.int .i64 (f:Nat)) from rfl)
   have hws:w.heap.size<w1.heap.size:=by omega
   have hwr1:w1.heap.size≤wr.heap.size:=hbel.out.size
   have HBXb:=Lib.hid hbox
   have AF:Hid (∀ W,Touch (fun k=>w1.heap.size≤k∧k<wr.heap.size) wz W→(fun W=>W.cell? ⟨wr.heap.size,0,none⟩=some (.string r.name)∧W.cell? ⟨wr.heap.size,1,none⟩=some (.int .i64 (r.flags:Nat))∧W.cell? ⟨wr.heap.size,2,none⟩=some (.int .i64 (r.method:Nat))∧W.cell? ⟨wr.heap.size,3,none⟩=some (.int .i64 (r.time:Nat))∧W.cell? ⟨wr.heap.size,4,none⟩=some (.int .i64 (r.date:Nat))∧W.cell? ⟨wr.heap.size,5,none⟩=some (.int .i64 (r.packed:Nat))∧W.cell? ⟨wr.heap.size,6,none⟩=some (.int .i64 (r.plain:Nat))∧W.cell? ⟨wr.heap.size,7,none⟩=some (.int .i64 (r.at_:Nat))∧W.cell? ⟨wr.heap.size,8,none⟩=some (.int .i64 (r.extra:Nat))∧W.cell? ⟨wr.heap.size,9,none⟩=some (.int .u32 (r.sum:Nat))∧W.cell? ⟨wr.heap.size,10,none⟩=some (.slice ra r.remark.length rc)∧W.cell? ⟨w.heap.size,0,none⟩=some (.slice ao xs.length cap)∧W.cell? ⟨w.heap.size,1,none⟩=some (.int .i64 (f:Nat))) W):=Lib.hid fun W hW=>by
    have hq:=HQ.out.touch hW (by omega)
    have hx:=HBXb.out.touch hW (by omega)
    have a0:=(hq.cell 0).trans (show _=some (.string r.name) from rfl)
    have a1:=(hq.cell 1).trans (show _=some (.int .i64 (r.flags:Nat)) from rfl)
    have a2:=(hq.cell 2).trans (show _=some (.int .i64 (r.method:Nat)) from rfl)
    have a3:=(hq.cell 3).trans (show _=some (.int .i64 (r.time:Nat)) from rfl)
    have a4:=(hq.cell 4).trans (show _=some (.int .i64 (r.date:Nat)) from rfl)
    have a5:=(hq.cell 5).trans (show _=some (.int .i64 (r.packed:Nat)) from rfl)
    have a6:=(hq.cell 6).trans (show _=some (.int .i64 (r.plain:Nat)) from rfl)
    have a7:=(hq.cell 7).trans (show _=some (.int .i64 (r.at_:Nat)) from rfl)
    have a8:=(hq.cell 8).trans (show _=some (.int .i64 (r.extra:Nat)) from rfl)
    have a9:=(hq.cell 9).trans (show _=some (.int .u32 (r.sum:Nat)) from rfl)
    have a10:=(hq.cell 10).trans (show _=some (.slice ra r.remark.length rc) from rfl)
    have b0:=(hx.cell 0).trans (show _=some (.slice ao xs.length cap) from rfl)
    have b1:=(hx.cell 1).trans (show _=some (.int .i64 (f:Nat)) from rfl)
    exact ⟨a0,a1,a2,a3,a4,a5,a6,a7,a8,a9,a10,b0,b1⟩
   have HLW:=Lib.hid fun k (hk:(Value.slice a2 i c2).ownBlock=some k)=>hown.out.lt k hk
   clear hbox hwz hbz c0 c1' c2' c3 c4 c5 c6 c7 c8 c9 c10 hown' hown hbel
   by_cases he:spotE ys r=0
   case neg=>
    obtain ⟨er,her⟩:∃ er,er=spotE ys r:=⟨_,rfl⟩
    have KB:Hid (Calls Tryz.prog 48 #[.agg (rcl r ra rc),.slice ao f cap] wz.drew fun e w'=>Below wz.heap.size wz w'∧e=zpan er):=Lib.hid (K48.mono fun e w' h=>by
     rcases h with ⟨hb,⟨_,h2⟩ | ⟨h2,_⟩⟩
     ·exact ⟨(below_drewN (Below.refl wz.heap.size wz) 1).trans hb,by rw [her];exact h2⟩
     ·exact absurd h2 he)
    have HE:Hid (spotsE ys RS=er):=Lib.hid (spotsE_stop hE0.out (by rw [HLR.out];exact hlt) (by rw [HXR.out];exact her.symm) (by rw [her];exact he))
    have hz:er≠0:=by rw [her];exact he
    clear K48 her he
    obtain ⟨q0,q1,q2,q3,q4,q5,q6,q7,q8,q9,q10,p0,p1⟩:=AF.out wz (Touch.refl _ _)
    clear AF
    go_region_dies
    all_goals
     go_at_call 48
     refine KB.out.mono ?_
     rintro e w4 ⟨hb4,rfl⟩
     exact ⟨rfl,SpotsTo.bad er HE.out hz (HB1.out.trans ((HBX.out.trans (hb4.mono HBX.out.size)).mono HB1.out.size))⟩
   case pos=>
   obtain ⟨s,hs⟩:∃ s,s=spotS ys r:=⟨_,rfl⟩
   have KG:Hid (Calls Tryz.prog 48 #[.agg (rcl r ra rc),.slice ao f cap] wz.drew fun e w'=>Below wz.heap.size wz w'∧e = .returned (.agg #[.int .i64 (s.head:Nat),.int .i64 (s.data:Nat),.int .i64 (s.behind:Nat),.int .i64 (s.extra:Nat)])):=Lib.hid (K48.mono fun e w' h=>by
     rcases h with ⟨hb,⟨h2,_⟩ | ⟨_,h2⟩⟩
     ·exact absurd he h2
     ·exact ⟨(below_drewN (Below.refl wz.heap.size wz) 1).trans hb,by rw [hs];exact h2⟩)
   have HE:Hid (spotsE ys (RS.take (i+1))=0):=Lib.hid (spotsE_step hE0.out (by rw [HLR.out];exact hlt) (by rw [HXR.out];exact he))
   have HSP:Hid (spc ((RS.take (i+1)).map (spotS ys))=spc ((RS.take i).map (spotS ys))++spe s):=Lib.hid (by
    rw [List.take_succ_eq_append_getElem (by rw [HLR.out];exact hlt),List.map_append,HXR.out,List.map_singleton,←hs]
    simp [spc])
   clear K48 he hs
   go_region_held3 (fun W=>W.cell? ⟨wr.heap.size,0,none⟩=some (.string r.name)∧W.cell? ⟨wr.heap.size,1,none⟩=some (.int .i64 (r.flags:Nat))∧W.cell? ⟨wr.heap.size,2,none⟩=some (.int .i64 (r.method:Nat))∧W.cell? ⟨wr.heap.size,3,none⟩=some (.int .i64 (r.time:Nat))∧W.cell? ⟨wr.heap.size,4,none⟩=some (.int .i64 (r.date:Nat))∧W.cell? ⟨wr.heap.size,5,none⟩=some (.int .i64 (r.packed:Nat))∧W.cell? ⟨wr.heap.size,6,none⟩=some (.int .i64 (r.plain:Nat))∧W.cell? ⟨wr.heap.size,7,none⟩=some (.int .i64 (r.at_:Nat))∧W.cell? ⟨wr.heap.size,8,none⟩=some (.int .i64 (r.extra:Nat))∧W.cell? ⟨wr.heap.size,9,none⟩=some (.int .u32 (r.sum:Nat))∧W.cell? ⟨wr.heap.size,10,none⟩=some (.slice ra r.remark.length rc)∧W.cell? ⟨w.heap.size,0,none⟩=some (.slice ao xs.length cap)∧W.cell? ⟨w.heap.size,1,none⟩=some (.int .i64 (f:Nat))) (exact AF.out _ (by repeat (first | with_reducible exact HT4.out | with_reducible exact HT5.out | with_reducible exact Touch.refl _ _ | with_reducible refine Touch.alloc ?_ _ | refine Touch.drew ?_))) (first
    | (go_at_call 48;refine KG.out.mono ?_;rintro e w4 ⟨hb4,rfl⟩;have HB4:=Lib.hid (HBX.out.trans (hb4.mono HBX.out.size));have HO4:=Lib.hid (ownsRow_touch HOW.out (Touch.of_below hb4:Touch (fun _=>False) wz w4) (fun _ _ h=>h));have HT4:Hid (Touch (fun k=>w1.heap.size≤k∧k<wr.heap.size) wz w4):=Lib.hid (Touch.of_below hb4);clear hb4;obtain ⟨q0,q1,q2,q3,q4,q5,q6,q7,q8,q9,q10,p0,p1⟩:=AF.out w4 HT4.out)
    | (refine step_append_g at64 rfl (.tmp 13) (.tmp 21) rfl w1.heap.size (.slice a2 i c2) (.slice (some ⟨w4.heap.size,0,none⟩) 1 1) i 1 (spc ((RS.take i).map (spotS ys))) (spe s) (by simp [Act.eval]) (by simp [Act.eval]) (World.ownsRow.alloc (w:=w4) HO4.out _) (cells_blk w4 93 (spe s).toArray) rfl (spe_one s) (by have:=HB4.out.size;simp;omega) (by omega) (by omega) ?_;intro ao2 cc2 w5 hA;rw [←HSP.out] at hA;have HA:=Lib.hid hA;have HT5:Hid (Touch (fun k=>w1.heap.size≤k∧k<wr.heap.size) wz w5):=Lib.hid ((HT4.out.alloc _).trans (hA.touch.mono fun k hk=>HLW.out k hk));clear hA))
   all_goals
    go_wp2_with fail
    go_roundw
    case rel=>exact ⟨i+1,ao2,cc2,by omega,by go_num,rfl,HE,Lib.hid HA.out.own,Lib.hid (HBX.out.trans (HT5.out.below HBX.out.size fun k h=>h.1))⟩
    case measure=>simp [intOf];omega
  ·obtain rfl:i=n:=by omega
   have hni:¬(i:Int)<i:=by omega
   have hE:Hid (spotsE ys RS=0):=Lib.hid (by have:=hE0.out;rwa [List.take_of_length_le (by rw [HLR.out];omega)] at this)
   have hown':=hown.out
   rw [List.take_of_length_le (by rw [HLR.out];omega)] at hown'
   have HC:=Lib.hid (own_cellsAt hown')
   have HO:Hid (wr.ownsRow w.heap.size 93 4 (.slice a2 i c2) i (spc (RS.map (spotS ys)))):=Lib.hid (own_base hown' (by omega))
   have KC:=Lib.hid (clash_any a2 c2 (RS.map (spotS ys)) wr (by rw [List.length_map,HLR.out];exact HC.out) (by intro s hs;obtain ⟨r,_,rfl⟩:=List.mem_map.1 hs;exact spot_pos ys r) (by rw [List.length_map,HLR.out];omega))
   rw [List.length_map,HLR.out] at KC
   have HBW:=Lib.hid (HB1.out.trans (hbel.out.mono HB1.out.size))
   obtain ⟨A,hA⟩:∃ A,A=clashP (RS.map (spotS ys)):=⟨_,rfl⟩
   rw [←hA] at KC
   have HA:=Lib.hid hA
   clear hown' hown hbel hE0 hA
   cases A with
   | true=>
    go_wp2_with (first
     | (go_at_call 49;refine KC.out.mono ?_;rintro e w4 ⟨rfl,hb4⟩;have HB4:=Lib.hid (HBW.out.trans (hb4.mono HBW.out.size));clear hb4)
     | (go_at_call 43;refine (zmust_no 18 _).mono ?_;rintro e w' ⟨rfl,rfl⟩))
    exact ⟨rfl,HB4.out,.inr (.inl ⟨hE.out,HA.out.symm,rfl⟩)⟩
   | false=>
    go_wp2_with (first
     | (go_at_call 49;refine KC.out.mono ?_;rintro e w4 ⟨rfl,hb4⟩;have HB4:=Lib.hid (HBW.out.trans (hb4.mono HBW.out.size));have HC4:=Lib.hid (ownsRow_touch HO.out (Touch.of_below hb4:Touch (fun _=>False) wr w4) (fun _ _ h=>h));clear hb4)
     | (go_at_call 43;refine (zmust_yes 18 _).mono ?_;rintro e w' ⟨rfl,rfl⟩))
    go_ret
    exact ⟨HB4.out,.inr (.inr ⟨hE.out,HA.out.symm,a2,c2,by rw [HLR.out];rfl,by rw [HLR.out];exact HC4.out⟩)⟩
structure Em where
 nm:ByteArray
 d:List Nat
 da:Option Addr
 dc:Nat
 method:Nat
 extra:Nat
 at_:Nat
def eme (x:Em):List Value:=[.string x.nm,.slice x.da x.d.length x.dc,.int .i64 (x.method:Nat),.int .i64 (x.extra:Nat),.int .i64 (x.at_:Nat)]
def emc (l:List Em):List Value:=l.flatMap eme
theorem eme_len (x:Em):(eme x).length=5:=rfl
theorem eme_one (x:Em):∀ u∈eme x,u.oneCell'=true:=by
 intro u hu
 simp [eme] at hu
 rcases hu with rfl | rfl | rfl | rfl | rfl <;> rfl
theorem emc_app (a b:List Em):emc (a++b)=emc a++emc b:=by simp [emc]
theorem emc_at (l:List Em) (i c:Nat) (hi:i<l.length) (hc:c<5):(emc l)[i*5+c]? = (eme l[i])[c]? := by
 induction l generalizing i with
 | nil=>simp at hi
 | cons x r ih=>
  cases i with
  | zero=>simp only [emc,List.flatMap_cons,Nat.zero_mul,Nat.zero_add];rw [List.getElem?_append_left (by rw [eme_len];exact hc)];rfl
  | succ i=>
   simp only [emc,List.flatMap_cons]
   rw [List.getElem?_append_right (by rw [eme_len];omega),eme_len,show (i+1)*5+c-5=i*5+c by omega]
   exact ih i (by simpa using hi)
theorem at29:AT 29 39 (.agg #[.string ⟨#[]⟩,.slice none 0 0,.int .i64 0,.int .i64 0,.int .i64 0]) 5 64:=⟨by kernel_rfl,by kernel_rfl,rfl,by omega⟩
structure Ems (w:World) (base:Nat) (v:Value) (l:List Em):Prop where
 own:w.ownsRow base 39 5 v l.length (emc l)
 sl:∀ x∈l,Cu.Sl w x.da x.dc x.d
 low:∀ x∈l,∀ ad,x.da=some ad→base≤ad.block
 apart:∀ x∈l,x.d≠[]→∀ ad,x.da=some ad→v.ownBlock≠some ad.block
theorem Ems.nil (w:World) (base:Nat):Ems w base (.slice none 0 0) []:=⟨World.ownsRow_nil _ _ _ _,fun x h=>(by cases h),fun x h=>(by cases h),fun x h=>(by cases h)⟩
theorem Ems.touch {S:Nat→Prop} {w w':World} {base:Nat} {v:Value} {l:List Em} (h:Ems w base v l) (ht:Touch S w w') (hS:∀ k,S k→k<base):Ems w' base v l:=by
 refine ⟨ownsRow_touch h.own ht fun k hk hs=>?_,fun x hx=>(h.sl x hx).touch (touch_cu ht) fun _ ad had hs=>?_,h.low,h.apart⟩
 ·have:=(h.own.lt k hk).1;have:=hS k hs;omega
 ·have:=h.low x hx ad had;have:=hS _ hs;omega
theorem Ems.below {w w':World} {base:Nat} {v:Value} {l:List Em} (h:Ems w base v l) (hb:Below w.heap.size w w'):Ems w' base v l:=
 ⟨ownsRow_touch h.own (Touch.of_below hb:Touch (fun _=>False) w w') (fun _ _ h=>h),fun x hx=>(h.sl x hx).below hb,h.low,h.apart⟩
theorem Ems.app {w w':World} {base:Nat} {v v':Value} {l:List Em} {x:Em} (h:Ems w base v l) (hx:Cu.Sl w x.da x.dc x.d) (hl:∀ ad,x.da=some ad→base≤ad.block) (hap:x.d≠[]→∀ ad,x.da=some ad→v.ownBlock≠some ad.block)
  (hA:Apg w base 39 5 v (l.length+1) (emc l++eme x) v' w'):Ems w' base v' (l++[x]):=by
 have hall:∀ y∈l++[x],Cu.Sl w y.da y.dc y.d∧(∀ ad,y.da=some ad→base≤ad.block)∧(y.d≠[]→∀ ad,y.da=some ad→v.ownBlock≠some ad.block):=by
  intro y hy
  rcases List.mem_append.1 hy with hy | hy
  ·exact ⟨h.sl y hy,h.low y hy,h.apart y hy⟩
  ·rw [List.mem_singleton] at hy;subst hy;exact ⟨hx,hl,hap⟩
 refine ⟨?_,fun y hy=>?_,fun y hy=>(hall y hy).2.1,fun y hy hne ad had hc=>?_⟩
 ·rw [List.length_append,emc_app]
  have:emc [x]=eme x:=by simp [emc]
  rw [this];exact hA.own
 ·exact (hall y hy).1.touch (touch_cu hA.touch) fun hne ad had hs=>(hall y hy).2.2 hne ad had hs
 ·rcases hA.row _ hc with h1 | h1
  ·exact (hall y hy).2.2 hne ad had h1
  ·have:=(hall y hy).1.block_lt hne ad had
   omega
theorem Ems.at {w:World} {base:Nat} {v:Value} {l:List Em} (h:Ems w base v l) {i:Nat} (hi:i<l.length):∃ g c,v = .slice (some ⟨g,0,none⟩) l.length c∧g<w.heap.size∧∀ k u,(eme l[i])[k]? = some u→w.cell? ⟨g,i*5+k,none⟩=some u:=by
 obtain ⟨g,c,rfl,_,hlt⟩:=h.own.form (by omega)
 refine ⟨g,c,rfl,hlt,fun k u hu=>?_⟩
 have hk:k<5:=by
  have:=(List.getElem?_eq_some_iff.1 hu).1
  rwa [eme_len] at this
 have:=h.own.cells (g:=g) rfl (i*5+k) u (by rw [emc_at l i k hi hk];exact hu)
 rwa [Addr.add_lit,Nat.zero_add] at this
theorem sl_by {w:World} {ao:Option Addr} {c:Nat} {xs:List Nat} (h:Cu.Sl w ao c xs):BySl w (.slice ao xs.length c) xs:=by
 rcases h.src with h0 | ⟨b,off,rfl,hc⟩
 ·subst h0
  cases ao with
  | none=>rw [h.nil rfl];exact .inl ⟨rfl,rfl⟩
  | some a=>exact .inr ⟨a,c,rfl,Nat.zero_le _,fun j u hu=>by simp [u8s] at hu⟩
 ·refine .inr ⟨⟨b,off,none⟩,c,rfl,h.le,fun j u hu=>?_⟩
  have hj:j<xs.length:=by
   have:=(List.getElem?_eq_some_iff.1 hu).1
   simpa [u8s] using this
  rw [show (⟨b,off,none⟩:Addr).add j=⟨b,off+j,none⟩ by unfold Addr.add;split <;> simp_all,hc j hj,←hu]
  simp [u8s,hj,List.getD]
def plainP (bs:List Nat) (method left:Nat):Except Nat (List Nat):=
 if method=0 then if left<bs.length then .error 14 else .ok bs
 else match infl bs left with
  | .bad e => .error e
  | .ok _ s=>if (s.at_+7)/8≠bs.length then .error 10 else .ok s.out
def PlTo (w:World) (r:Except Nat (List Nat)) (e:Ending) (w':World):Prop:=
 Below w.heap.size w w'∧match r with
 | .error er=>er≠0∧e=zpan er
 | .ok d=>∃ ao c,e = .returned (.slice ao d.length c)∧Cu.Sl w' ao c d∧∀ ad,ao=some ad→w.heap.size≤ad.block
theorem PlTo.err {w w':World} {r:Except Nat (List Nat)} (er:Nat) (h:r = .error er) (h0:er≠0) (hb:Below w.heap.size w w'):PlTo w r (zpan er) w':=by
 subst h;exact ⟨hb,h0,rfl⟩
theorem PlTo.yes {w w':World} {r:Except Nat (List Nat)} {d:List Nat} (h:r = .ok d) (ao:Option Addr) (n c:Nat) (hn:n=d.length) (hs:Cu.Sl w' ao c d) (hf:∀ ad,ao=some ad→w.heap.size≤ad.block) (hb:Below w.heap.size w w'):PlTo w r (.returned (.slice ao n c)) w':=by
 subst h hn;exact ⟨hb,ao,c,rfl,hs,hf⟩
theorem own_sl {w:World} {base:Nat} {ao:Option Addr} {n c:Nat} {xs:List Nat} (h:w.ownsRow base 5 1 (.slice ao n c) xs.length (u8s xs)) (hb:Bs xs) (hn:n=xs.length):Cu.Sl w ao c xs∧∀ ad,ao=some ad→base≤ad.block:=by
 rcases h.2 with ⟨he,h0⟩ | ⟨g,cap,cur,he,hbg,hgg,hnc,hcm,hcs,htake⟩
 ·injection he with h1 h2 h3
  subst h1 h3
  have hx:xs=[]:=List.eq_nil_of_length_eq_zero h0
  subst hx
  exact ⟨Cu.Sl.none_ w,fun ad h=>by cases h⟩
 ·injection he with h1 h2 h3
  subst h1 h3
  refine ⟨⟨?_,hnc,hcm,(fun h=>by cases h),hb⟩,fun ad h=>by cases h;exact hbg⟩
  by_cases hx:xs=[]
  ·exact .inl hx
  ·refine .inr ⟨g,0,rfl,fun j hj=>?_⟩
   have:=h.cells (g:=g) (by simp [Value.ownBlock]) j (.int .u8 (xs.getD j 0:Nat)) (by simp [u8s,hj,List.getD])
   rwa [Addr.add_lit] at this
set_option maxHeartbeats 3200000 in
theorem plainBytes_any (ao:Option Addr) (cc:Nat) (bs:List Nat) (method left:Nat) (w:World) (hT:Tab w) (h:Cu.Sl w ao cc bs) (hm:bs.length≤100000) (hl:left≤2000000) :
  Calls Tryz.prog 47 #[.slice ao bs.length cc,.int .i64 method,.int .i64 left] w (PlTo w (plainP bs method left)):=by
 have hbs:Bs bs:=h.bs
 by_cases h0:method=0
 ·subst h0
  by_cases h1:left<bs.length
  ·have HE:Hid (plainP bs 0 left = .error 14):=Lib.hid (by unfold plainP;rw [if_pos rfl,if_pos h1])
   have z0:¬(bs.length:Int)≤left:=by omega
   go_enter Tryz.func47,Tryz.ntmps47
   go_wp2_with (go_at_call 43;refine (zmust_no 14 _).mono ?_;rintro e w' ⟨rfl,rfl⟩)
   exact ⟨rfl,PlTo.err 14 HE.out (by decide) (Below.refl _ _)⟩
  ·have HE:Hid (plainP bs 0 left = .ok bs):=Lib.hid (by unfold plainP;rw [if_pos rfl,if_neg h1])
   have z0:(bs.length:Int)≤left:=by omega
   have K:=Lib.hid (Cu.clone_any ao cc bs w h (by omega))
   clear h
   go_enter Tryz.func47,Tryz.ntmps47
   go_wp2_with (first
    | (go_at_call 43;refine (zmust_yes 14 _).mono ?_;rintro e w' ⟨rfl,rfl⟩)
    | (go_at_call 71;refine K.out.mono ?_;rintro e w1 ⟨a1,c1,rfl,hf,hb⟩;have HF:=Lib.hid hf;have HB:=Lib.hid hb;clear hf hb))
   go_ret
   exact PlTo.yes HE.out a1 _ c1 rfl HF.out.1 HF.out.2 HB.out
 ·have z0:((method:Int) == 0)=false:=by simp;omega
  have K:=Inflate_any (sl_by h) hbs hm (left:Int) left (by omega) hl hT hT.pos
  cases hi:infl bs left with
  | bad er=>
   rw [hi] at K
   have her:=infl_nz hbs hi
   have HE:Hid (plainP bs method left = .error er):=Lib.hid (by unfold plainP;rw [if_neg h0,hi])
   have z1:((er:Int) == 0)=false:=by simp;omega
   have K:=Lib.hid K
   clear h hi
   go_enter Tryz.func47,Tryz.ntmps47
   go_wp2_with (first
    | (go_at_call 72;refine K.out.mono ?_;rintro e w1 ⟨hb,rfl⟩;have HB:=Lib.hid hb;clear hb)
    | (go_at_call 43;refine (zmust_no er _).mono ?_;rintro e w' ⟨rfl,rfl⟩))
   refine ⟨rfl,PlTo.err er HE.out her ?_⟩
   exact HB.out.trans (((Below.refl _ w1).alloc (Nat.le_refl _) _).mono HB.out.size)
  | ok u s=>
   rw [hi] at K
   have hpos:=infl_pos hbs hi
   have hsb:Bs s.out:=(infl_le hbs hi).bytes (fun x hx=>by cases hx)
   obtain ⟨u8v,hu⟩:∃ q,q=(s.at_+7)/8:=⟨_,rfl⟩
   have hul:u8v<1000000:=by omega
   unfold InfTo at K
   simp only [←hu] at K
   by_cases h2:u8v=bs.length
   ·have HE:Hid (plainP bs method left = .ok s.out):=Lib.hid (by unfold plainP;rw [if_neg h0,hi];simp only [←hu,h2];simp)
    have z1:((u8v:Int) == (bs.length:Int))=true:=by simp;omega
    have K:=Lib.hid K
    clear h hi hpos hu h2
    go_enter Tryz.func47,Tryz.ntmps47
    go_wp2_with fail
    refine K.out.mono ?_
    rintro e w1 ⟨hb,ov,rfl,ho⟩
    obtain ⟨ao1,c1,hov⟩:=own_shape ho
    subst hov
    have HO:=Lib.hid (own_sl ho hsb rfl)
    have HB:=Lib.hid hb
    clear hb ho
    go_wp2_with (go_at_call 43;refine (zmust_yes _ _).mono ?_;rintro e w' ⟨rfl,rfl⟩)
    go_ret
    have hba:=(Below.refl _ w1).alloc (Nat.le_refl _) (.cells #[.slice ao1 s.out.length c1,.int .i64 (u8v:Nat),.int .i64 (s.steps:Nat),.int .i64 (s.blocks:Nat)] 127)
    exact PlTo.yes HE.out ao1 _ c1 rfl (HO.out.1.below hba) HO.out.2 (HB.out.trans (hba.mono HB.out.size))
   ·have HE:Hid (plainP bs method left = .error 10):=Lib.hid (by unfold plainP;rw [if_neg h0,hi];simp only [←hu];rw [if_pos h2])
    have z1:((u8v:Int) == (bs.length:Int))=false:=by simp;omega
    have K:=Lib.hid K
    clear h hi hpos hu h2
    go_enter Tryz.func47,Tryz.ntmps47
    go_wp2_with fail
    refine K.out.mono ?_
    rintro e w1 ⟨hb,ov,rfl,ho⟩
    obtain ⟨ao1,c1,hov⟩:=own_shape ho
    subst hov
    have HB:=Lib.hid hb
    clear hb ho
    go_wp2_with (go_at_call 43;(first | (refine (zmust_yes 0 _).mono ?_;rintro e w' ⟨rfl,rfl⟩) | (refine (zmust_no 10 _).mono ?_;rintro e w' ⟨rfl,rfl⟩)))
    refine ⟨rfl,PlTo.err 10 HE.out (by decide) ?_⟩
    exact HB.out.trans (((Below.refl _ w1).alloc (Nat.le_refl _) _).mono HB.out.size)
abbrev tpE (x:Em):ByteArray × Nat × Nat × Nat:=(x.nm,x.method,x.extra,x.at_)
abbrev tpR (ys:List Nat) (r:Rw):ByteArray × Nat × Nat × Nat:=(r.name,r.method,(spotS ys r).extra+r.extra,r.at_)
def befD (a:List (List Nat)):Except Nat (List (List Nat))→Except Nat (List (List Nat))
 | .error e => .error e
 | .ok d => .ok (a++d)
def EnTo (ys:List Nat) (rs:List Rw) (tr:Except Nat (List (List Nat))) (w:World) (e:Ending) (w':World):Prop:=
 Below w.heap.size w w'∧match tr with
  | .error er=>e=zpan er
  | .ok ds=>∃ (ems:List Em) (a:Option Addr) (c:Nat),e = .returned (.slice a rs.length c)∧Ems w' w.heap.size (.slice a rs.length c) ems∧ems.map tpE=rs.map (tpR ys)∧ems.map (·.d)=ds
theorem EnTo.bad {ys:List Nat} {rs:List Rw} {tr:Except Nat (List (List Nat))} {w w':World} (er:Nat) (h:tr = .error er) (hb:Below w.heap.size w w'):EnTo ys rs tr w (zpan er) w':=by
 subst h;exact ⟨hb,rfl⟩
theorem dataP_plain (ys:List Nat) (r:Rw) (left:Nat):dataP ys r left=plainP (cutP ys r) r.method left:=rfl
theorem spotE_fits {ys:List Nat} {r:Rw} (h:spotE ys r=0):spData ys r+r.packed≤ys.length:=by
 unfold spotE at h
 split at h
 ·cases h
 ·split at h
  ·cases h
  ·omega
theorem cutP_take {xs:List Nat} {f:Nat} {r:Rw} (h:spData (xs.take f) r+r.packed≤f):cutP (xs.take f) r=(xs.drop (spData (xs.take f) r)).take r.packed:=by
 unfold cutP
 rw [List.drop_take,List.take_take,Nat.min_eq_left (by omega)]
theorem dataP_len {ys:List Nat} {r:Rw} {L:Nat} {d:List Nat} (hb:Bs (cutP ys r)) (h:dataP ys r L = .ok d):d.length≤L:=by
 unfold dataP at h
 split at h
 ·split at h
  ·cases h
  ·cases h;omega
 ·cases hi:infl (cutP ys r) L with
  | bad e=>rw [hi] at h;cases h
  | ok u s=>
   rw [hi] at h
   simp only at h
   split at h
   ·cases h
   ·cases h;exact (infl_le hb hi).lim_ (Nat.zero_le _)
set_option maxHeartbeats 3200000 in
theorem entries_any (ao:Option Addr) (cap:Nat) (xs:List Nat) (f e:Nat) (base:Nat) (a1:Option Addr) (c1:Nat) (rs:List Rm) (sa:Option Addr) (sc L:Nat) (w:World) (hT:TZ w) (h:Cu.Sl w ao cap xs) (hR:Rms w base (.slice a1 rs.length c1) rs)
  (hfit:∀ x∈rs,Rfit x.r) (hsp:∀ x∈rs,spotE (xs.take f) x.r=0) (sb:Nat) (hS:w.ownsRow sb 93 4 (.slice sa rs.length sc) rs.length (spc ((rs.map (·.r)).map (spotS (xs.take f))))) (hf:f≤xs.length) (hm:xs.length≤100000) (hn:rs.length≤65535) (hex:∀ x∈rs,x.r.extra<65536) (hL:L≤2000000) :
  Calls Tryz.prog 26 #[.agg #[.slice ao xs.length cap,.int .i64 (f:Nat),.int .i64 (e:Nat),.slice a1 rs.length c1],.slice sa rs.length sc,.int .i64 (L:Nat)] w (EnTo (xs.take f) (rs.map (·.r)) (entsP (xs.take f) (rs.map (·.r)) L) w):=by
 obtain ⟨ys,hys⟩:∃ ys,ys=xs.take f:=⟨_,rfl⟩
 have hyl:ys.length=f:=by rw [hys,List.length_take];omega
 rw [←hys] at hsp hS ⊢
 have HYS:=Lib.hid hys
 have hcap:=h.le
 obtain ⟨n,hnn⟩:∃ n,n=rs.length:=⟨_,rfl⟩
 obtain ⟨w1,hw1⟩:∃ w1,w1=w.alloc (.cells #[.slice ao xs.length cap,.int .i64 (f:Nat),.int .i64 (e:Nat),.slice a1 n c1] 61):=⟨_,rfl⟩
 have hb1:Below w.heap.size w w1:=by rw [hw1];exact (Below.refl _ w).alloc (Nat.le_refl _) _
 have hz1:w1.heap.size=w.heap.size+1:=by rw [hw1,alloc_size]
 have HBox:Hid (Blk w1 w.heap.size 61 #[.slice ao xs.length cap,.int .i64 (f:Nat),.int .i64 (e:Nat),.slice a1 n c1]):=Lib.hid (by rw [hw1];exact Blk.made _ _ _)
 have HR:=Lib.hid (hR.below hb1)
 have HS:=Lib.hid (h.below hb1)
 have HSP:=Lib.hid (ownsRow_touch hS (Touch.of_below hb1:Touch (fun _=>False) w w1) (fun _ _ h=>h))
 have HT:=Lib.hid (hT.grow hb1)
 have HF:=Lib.hid hfit
 have HEX:=Lib.hid hex
 have HS0:=Lib.hid hsp
 have HN:=Lib.hid hnn
 have HYL:=Lib.hid hyl
 have HB1:=Lib.hid hb1
 have b0:=(HBox.out.cell 3).trans (show _=some (.slice a1 n c1) from rfl)
 obtain ⟨RS,hRS⟩:∃ RS,RS=rs.map (·.r):=⟨_,rfl⟩
 have HRS:=Lib.hid hRS
 have HLR:Hid (RS.length=n):=Lib.hid (by rw [hRS,List.length_map,hnn])
 obtain ⟨RES,hRES⟩:∃ RES,RES=entsP ys RS L:=⟨_,rfl⟩
 have HRES:=Lib.hid hRES
 rw [←hRS] at HSP ⊢
 rw [←hnn] at HSP HR ⊢
 rw [←hRES]
 rw [←hnn] at hn
 have hbs:Bs xs:=h.bs
 clear h hR hfit hnn hyl hS hb1 hRS hRES hT hsp hys hex
 go_enter Tryz.func26,Tryz.ntmps26
 go_upto_region 2 with fail
 rw [←hw1]
 clear hw1
 go_wp2_with fail
 go_loopw [2,7,15] (fun v2 v7 vi wr=>∃ (i L2:Nat) (ems:List Em) (a2:Option Addr) (c2:Nat),i≤n∧vi = .int .i64 i∧v2 = .int .i64 L2∧L2≤2000000∧v7 = .slice a2 i c2∧ems.length=i∧Hid (RES=befD (ems.map (·.d)) (entsP ys (RS.drop i) L2))∧Hid (ems.map tpE=(RS.take i).map (tpR ys))∧
  Hid (Ems wr w1.heap.size (.slice a2 i c2) ems)∧Hid (Below w1.heap.size w1 wr)) (fun _ _ vi _=>n-(intOf vi).toNat)
 case atStart=>exact ⟨0,L,[],none,0,Nat.zero_le _,rfl,rfl,hL,rfl,rfl,Lib.hid (by rw [HRES.out,List.drop_zero];cases entsP ys RS L <;> rfl),Lib.hid rfl,Lib.hid (Ems.nil _ _),Lib.hid (Below.refl _ _)⟩
 case round=>
  obtain ⟨i,L2,ems,a2,c2,hi,rfl,rfl,hL2,rfl,hel,hst,htp,hems,hbel⟩:=hrel
  by_cases hlt:i<n
  ·have hii:(i:Int)<n:=by omega
   have hil:i<rs.length:=by rw [←HN.out];exact hlt
   have hRw:=HR.out.below hbel.out
   obtain ⟨g,cg,hv,hgw,hcell⟩:=hRw.at hil
   obtain ⟨x,hx⟩:∃ x,x=rs[i]:=⟨_,rfl⟩
   rw [←hx] at hcell
   have hxm:Rfit x.r:=HF.out x (by rw [hx];exact List.getElem_mem _)
   have hxe:x.r.extra<65536:=HEX.out x (by rw [hx];exact List.getElem_mem _)
   have hxs:spotE ys x.r=0:=HS0.out x (by rw [hx];exact List.getElem_mem _)
   have hir:i<RS.length:=by rw [HLR.out];exact hlt
   have hxr:RS[i]=x.r:=by simp only [HRS.out,List.getElem_map];rw [←hx]
   obtain ⟨r,ra,rc⟩:=x
   have hst':=hst.out
   rw [List.drop_eq_getElem_cons hir,hxr,entsP] at hst'
   have htp':(RS.take (i+1)).map (tpR ys)=(RS.take i).map (tpR ys)++[tpR ys r]:=by rw [List.take_succ_eq_append_getElem hir,List.map_append,hxr];rfl
   obtain rfl:a1=some ⟨g,0,none⟩:=by injection hv
   have c0:wr.cell? ⟨g,i*11,none⟩=some (.string r.name):=hcell 0 _ rfl
   have c1':wr.cell? ⟨g,i*11+1,none⟩=some (.int .i64 (r.flags:Nat)):=hcell 1 _ rfl
   have c2':wr.cell? ⟨g,i*11+2,none⟩=some (.int .i64 (r.method:Nat)):=hcell 2 _ rfl
   have c3:wr.cell? ⟨g,i*11+3,none⟩=some (.int .i64 (r.time:Nat)):=hcell 3 _ rfl
   have c4:wr.cell? ⟨g,i*11+4,none⟩=some (.int .i64 (r.date:Nat)):=hcell 4 _ rfl
   have c5:wr.cell? ⟨g,i*11+5,none⟩=some (.int .i64 (r.packed:Nat)):=hcell 5 _ rfl
   have c6:wr.cell? ⟨g,i*11+6,none⟩=some (.int .i64 (r.plain:Nat)):=hcell 6 _ rfl
   have c7:wr.cell? ⟨g,i*11+7,none⟩=some (.int .i64 (r.at_:Nat)):=hcell 7 _ rfl
   have c8:wr.cell? ⟨g,i*11+8,none⟩=some (.int .i64 (r.extra:Nat)):=hcell 8 _ rfl
   have c9:wr.cell? ⟨g,i*11+9,none⟩=some (.int .u32 (r.sum:Nat)):=hcell 9 _ rfl
   have c10:wr.cell? ⟨g,i*11+10,none⟩=some (.slice ra r.remark.length rc):=hcell 10 _ rfl
   have hsw:=ownsRow_touch HSP.out (Touch.of_below hbel.out:Touch (fun _=>False) w1 wr) (fun _ _ h=>h)
   obtain ⟨sp,hsp⟩:∃ sp,sp=spotS ys r:=⟨_,rfl⟩
   obtain ⟨s,cs,hsv,_,hslt⟩:=hsw.form (by omega)
   have hscell:∀ k u,(spe sp)[k]? = some u→wr.cell? ⟨s,i*4+k,none⟩=some u:=fun k u hu=>by
    have hk:k<4:=by have:=(List.getElem?_eq_some_iff.1 hu).1;simpa [spe] using this
    have:=hsw.cells (g:=s) (by rw [hsv];rfl) (i*4+k) u (by rw [spc_at _ i k (by rw [List.length_map];exact hir) hk,List.getElem_map,hxr,←hsp];exact hu)
    rwa [Addr.add_lit,Nat.zero_add] at this
   obtain rfl:sa=some ⟨s,0,none⟩:=by injection hsv
   have s0:wr.cell? ⟨s,i*4,none⟩=some (.int .i64 (sp.head:Nat)):=hscell 0 _ rfl
   have s1:wr.cell? ⟨s,i*4+1,none⟩=some (.int .i64 (sp.data:Nat)):=hscell 1 _ rfl
   have s2:wr.cell? ⟨s,i*4+2,none⟩=some (.int .i64 (sp.behind:Nat)):=hscell 2 _ rfl
   have s3:wr.cell? ⟨s,i*4+3,none⟩=some (.int .i64 (sp.extra:Nat)):=hscell 3 _ rfl
   have HSPq:=Lib.hid hsp
   have hspx:sp.extra<65536:=by rw [hsp];exact nu2_lt (show Bs ys by rw [HYS.out];exact Cu.Bs.take (show Cu.Bs xs from hbs) f) _
   have hrx:r.extra<65536:=hxe
   obtain ⟨wz,hwz⟩:∃ wz,wz=(wr.alloc (.cells (rcl r ra rc) 49)).alloc (.cells #[.int .i64 (sp.head:Nat),.int .i64 (sp.data:Nat),.int .i64 (sp.behind:Nat),.int .i64 (sp.extra:Nat)] 93):=⟨_,rfl⟩
   have hbz:Below wr.heap.size wr wz:=by rw [hwz];exact ((Below.refl _ wr).alloc (Nat.le_refl _) _).alloc (by simp) _
   have HRo:Hid (Blk wz wr.heap.size 49 (rcl r ra rc)):=Lib.hid (by rw [hwz];exact (Blk.made wr 49 _).below ((Below.refl _ _).alloc (Nat.le_refl _) _))
   have HSo:Hid (Blk wz (wr.heap.size+1) 93 #[.int .i64 (sp.head:Nat),.int .i64 (sp.data:Nat),.int .i64 (sp.behind:Nat),.int .i64 (sp.extra:Nat)]):=Lib.hid (by rw [hwz];exact Blk.made1 _ _ _ _)
   have HBz:=Lib.hid (hbel.out.trans (hbz.mono hbel.out.size))
   have HEMz:=Lib.hid (hems.out.below hbz)
   have HEz:=Lib.hid (ownsRow_touch hems.out.own (Touch.of_below hbz:Touch (fun _=>False) wr wz) (fun _ _ h=>h))
   obtain ⟨D,hD⟩:∃ D,D=sp.data:=⟨_,rfl⟩
   have hDs:D=spData ys r:=by rw [hD,hsp];rfl
   have hfits:D+r.packed≤f:=by have h1:spData ys r+r.packed≤ys.length:=spotE_fits hxs;rw [HYL.out] at h1;omega
   obtain ⟨T,hTT⟩:∃ T,T=D+r.packed:=⟨_,rfl⟩
   have hwT:IntKind.i64.wrap ((D:Int)+r.packed)=(T:Int):=by rw [wrap_sm _ (by omega) (by omega)];omega
   obtain ⟨A,hA⟩:∃ A,A=Cu.cutA ao cap D:=⟨_,rfl⟩
   obtain ⟨CD,hCD⟩:∃ CD,CD=cap-D:=⟨_,rfl⟩
   have hSL:∀ W,(Instr.slice 22 (.slice ao xs.length cap) (some (.int .i64 (D:Int))) (some (.int .i64 (T:Int))) none).run Tryz.prog W = .ok (.slice A r.packed CD) W:=fun W=>by
    have:=Cu.slice_lh ao xs.length cap D T (by omega) (by omega) W
    rwa [←hA,←hCD,show T-D=r.packed by omega] at this
   have hcut:cutP ys r=(xs.drop D).take r.packed:=by
    rw [HYS.out,hDs]
    conv=>rhs;rw [HYS.out]
    exact cutP_take (by rw [←HYS.out,←hDs];exact hfits)
   have HBC:Hid (Bs (cutP ys r)):=Lib.hid (by rw [hcut];exact Cu.Bs.take (Cu.Bs.drop (show Cu.Bs xs from hbs) D) r.packed)
   have hcl:(cutP ys r).length=r.packed:=by rw [hcut,Cu.win_len (by omega)]
   have HK:Hid (∀ W,Below wz.heap.size wz W→Calls Tryz.prog 47 #[.slice A r.packed CD,.int .i64 (r.method:Nat),.int .i64 (L2:Nat)] W (PlTo W (dataP ys r L2))):=Lib.hid fun W hW=>by
    have hbW:Below w1.heap.size w1 W:=HBz.out.trans (hW.mono HBz.out.size)
    have hs:=(HS.out.below hbW).cut' D r.packed (by omega)
    rw [←hcut,←hA,←hCD] at hs
    have:=plainBytes_any A CD (cutP ys r) r.method L2 W (HT.out.grow hbW).tab hs (by rw [hcl];omega) hL2
    rwa [hcl,←dataP_plain] at this
   have b00:=((HBox.out.below HBz.out).cell 0).trans (show _=some (.slice ao xs.length cap) from rfl)
   have b5:=(HRo.out.cell 5).trans (show _=some (.int .i64 (r.packed:Nat)) from rfl)
   have b2:=(HRo.out.cell 2).trans (show _=some (.int .i64 (r.method:Nat)) from rfl)
   have b1:=(HSo.out.cell 1).trans (show _=some (.int .i64 (sp.data:Nat)) from rfl)
   rw [←hD] at b1
   have HST:=Lib.hid hst'
   have HTP:=Lib.hid htp'
   have HLW:=Lib.hid fun k (hk:(Value.slice a2 i c2).ownBlock=some k)=>hems.out.own.lt k hk
   clear hcell hx hv hscell hsw hsv hRw hsp hst' htp' hDs hTT hA hCD hcut hcl
   go_upto_region 6 with fail
   rw [←hwz]
   clear hwz hbz c0 c1' c2' c3 c4 c5 c6 c7 c8 c9 c10 s0 s1 s2 s3 hD
   refine wp_region_still_tail 13 (by kernel_rfl) (by kernel_rfl) (Stl.out ?_)
   simp only [List.take_succ_cons,List.take_zero,List.drop_succ_cons,List.drop_zero]
   refine tS (.pointer (some ⟨w.heap.size,0,none⟩)) ?_
   dsimp only [List.set]
   refine tS (.slice ao xs.length cap) ?_
   dsimp only [List.set]
   refine tS (.pointer (some ⟨wr.heap.size+1,1,none⟩)) ?_
   dsimp only [List.set]
   refine tS (.int .i64 (D:Nat)) ?_
   dsimp only [List.set]
   refine tS (.pointer (some ⟨wr.heap.size+1,1,none⟩)) ?_
   dsimp only [List.set]
   refine tS (.int .i64 (D:Nat)) ?_
   dsimp only [List.set]
   refine tS (.pointer (some ⟨wr.heap.size,5,none⟩)) ?_
   dsimp only [List.set]
   refine tS (.int .i64 (r.packed:Nat)) ?_
   dsimp only [List.set]
   refine tS (.int .i64 (T:Nat)) ?_
   dsimp only [List.set]
   refine tS (.slice A r.packed CD) ?_
   dsimp only [List.set]
   refine tS (.pointer (some ⟨wr.heap.size,2,none⟩)) ?_
   dsimp only [List.set]
   refine tS (.int .i64 (r.method:Nat)) ?_
   dsimp only [List.set]
   refine tS (.int .i64 (L2:Nat)) ?_
   dsimp only [List.set]
   refine tE ?_
   cases hdp:dataP ys r L2 with
   | error er=>
    have HE:Hid (RES = .error er):=Lib.hid (by rw [HST.out,hdp];rfl)
    have KB:=HK.out wz.drew (below_drewN (Below.refl _ _) 1)
    rw [hdp] at KB
    have KB:Hid (Calls Tryz.prog 47 #[.slice A r.packed CD,.int .i64 (r.method:Nat),.int .i64 (L2:Nat)] wz.drew fun e w'=>Below wz.heap.size wz w'∧e=zpan er):=Lib.hid (KB.mono fun e w' h=>⟨(below_drewN (Below.refl wz.heap.size wz) 1).trans h.1,h.2.2⟩)
    clear hdp
    go_wp2_with (go_at_call 47;refine KB.out.mono ?_;rintro e w4 ⟨hb4,rfl⟩)
    exact ⟨rfl,EnTo.bad er HE.out (HB1.out.trans ((HBz.out.trans (hb4.mono HBz.out.size)).mono HB1.out.size))⟩
   | ok d=>
    have KG:=HK.out wz.drew (below_drewN (Below.refl _ _) 1)
    rw [hdp] at KG
    have KG:Hid (Calls Tryz.prog 47 #[.slice A r.packed CD,.int .i64 (r.method:Nat),.int .i64 (L2:Nat)] wz.drew fun e w'=>Below wz.heap.size wz w'∧∃ da dc,e = .returned (.slice da d.length dc)∧Cu.Sl w' da dc d∧∀ ad,da=some ad→wz.heap.size≤ad.block):=Lib.hid (KG.mono fun e w' h=>⟨(below_drewN (Below.refl wz.heap.size wz) 1).trans h.1,h.2⟩)
    have HST2:Hid (RES=befD (ems.map (·.d)) (if dataE d r≠0 then .error (dataE d r) else match entsP ys (RS.drop (i+1)) (L2-d.length) with
     | .error e => .error e
     | .ok ds => .ok (d::ds))):=Lib.hid (by rw [HST.out,hdp];rfl)
    have hdl:=dataP_len HBC.out hdp
    clear hdp HST
    go_upto_region 7 with (go_at_call 47;refine KG.out.mono ?_;rintro e w4 ⟨hb4,da,dc,rfl,hsl,hfr⟩;have HB4:=Lib.hid hb4;have HSL:=Lib.hid hsl;have HFR:=Lib.hid hfr;clear hb4 hsl hfr)
    have HRo4:=Lib.hid (HRo.out.below HB4.out)
    have HSo4:=Lib.hid (HSo.out.below HB4.out)
    have HBw4:=Lib.hid (HBz.out.trans (HB4.out.mono HBz.out.size))
    have e6:=(HRo4.out.cell 6).trans (show _=some (.int .i64 (r.plain:Nat)) from rfl)
    have HFit7:Hid (d.length≤2000000):=Lib.hid (by omega)
    clear KG b00 b5 b2 b1
    by_cases g7:d.length=r.plain
    case neg=>
     have z7:((d.length:Int) == (r.plain:Int))=false:=by simp;omega
     have HE:Hid (RES = .error 10):=Lib.hid (by
      have h10:dataE d r=10:=by unfold dataE;rw [if_pos g7]
      rw [HST2.out,h10];rfl)
     clear g7
     go_wp2_with (go_at_call 43;refine (zmust_no 10 _).mono ?_;rintro e w' ⟨rfl,rfl⟩)
     exact ⟨rfl,EnTo.bad 10 HE.out (HB1.out.trans (HBw4.out.mono HB1.out.size))⟩
    case pos=>
    have z7:((d.length:Int) == (r.plain:Int))=true:=by simp;omega
    have H7:=Lib.hid g7
    clear g7
    go_upto_region 8 with (go_at_call 43;refine (zmust_yes 10 _).mono ?_;rintro e w' ⟨rfl,rfl⟩)
    have hbd:Bs d:=HSL.out.bs
    obtain ⟨U,hU⟩:∃ U,U=(CrcPlain.updN 0#32 d).toNat:=⟨_,rfl⟩
    have KC:=Cr.sum_any da dc d w4.drew (by have:=HFit7.out;omega) hbd (HSL.out.below (below_drewN (Below.refl _ _) 1)).src
    rw [←hU] at KC
    have KC:Hid (Calls Tryz.prog 40 #[.slice da d.length dc] w4.drew fun e w'=>e = .returned (.int .u32 (U:Nat))∧Below w4.heap.size w4 w'):=Lib.hid (KC.mono fun e w' h=>⟨h.1,(below_drewN (Below.refl _ _) 1).trans h.2⟩)
    have HU:=Lib.hid hU
    have e9:=(HRo4.out.cell 9).trans (show _=some (.int .u32 (r.sum:Nat)) from rfl)
    have h4l:=HRo4.out.lt
    clear z7 hU
    by_cases g8:U=r.sum
    case neg=>
     have z8:((U:Int) == (r.sum:Int))=false:=by simp;omega
     have HE:Hid (RES = .error 16):=Lib.hid (by
      have h16:dataE d r=16:=by unfold dataE;rw [if_neg (fun h=>h H7.out),if_pos (fun h=>g8 (HU.out.trans h))]
      rw [HST2.out,h16];rfl)
     have HG8:=Lib.hid g8
     clear g8
     go_region_dies
     ·go_at_call 40
      refine KC.out.mono ?_
      rintro e w5 ⟨rfl,hb5⟩
      have HB5:=Lib.hid hb5
      have e9:=(hb5.cell h4l).trans e9
      clear hb5
      dsimp only
      refine (by assumption:∀ (a:Act) (w:World),_→_) _ _ ?_
      refine wpAny_ready (rs:=[3]) (by kernel_rfl) (by simp) ?_
      refine AllReady.cons rfl (fun K3 hK3=>?_) AllReady.nil
      go_simp
      refine hK3 _ _ ?_
      refine wpAny_ready (rs:=[4]) (by kernel_rfl) (by simp) ?_
      refine AllReady.cons rfl (fun K4 hK4=>?_) AllReady.nil
      go_simp
      refine hK4 _ _ ?_
      refine wpAny_ready (rs:=[5]) (by kernel_rfl) (by simp) ?_
      refine AllReady.cons rfl (fun K5 hK5=>?_) AllReady.nil
      go_simp
      go_at_call 43
      refine (zmust_no 16 _).mono ?_
      rintro e w' ⟨rfl,rfl⟩
      exact ⟨rfl,EnTo.bad 16 HE.out (HB1.out.trans ((HBw4.out.trans (HB5.out.mono HBw4.out.size)).mono HB1.out.size))⟩
     ·go_at_call 40
      refine KC.out.mono ?_
      rintro e w5 ⟨rfl,hb5⟩
      have HB5:=Lib.hid hb5
      have e9:=(hb5.cell h4l).trans e9
      clear hb5
      dsimp only
      refine (by assumption:∀ (a:Act) (w:World),_→_) _ _ ?_
      refine wpAny_ready (rs:=[4]) (by kernel_rfl) (by simp) ?_
      refine AllReady.cons rfl (fun K4 hK4=>?_) AllReady.nil
      go_simp
      refine hK4 _ _ ?_
      refine wpAny_ready (rs:=[5]) (by kernel_rfl) (by simp) ?_
      refine AllReady.cons rfl (fun K5 hK5=>?_) AllReady.nil
      go_simp
      go_at_call 43
      refine (zmust_no 16 _).mono ?_
      rintro e w' ⟨rfl,rfl⟩
      exact ⟨rfl,EnTo.bad 16 HE.out (HB1.out.trans ((HBw4.out.trans (HB5.out.mono HBw4.out.size)).mono HB1.out.size))⟩
    case pos=>
    have z8:((U:Int) == (r.sum:Int))=true:=by simp;omega
    have HG8:=Lib.hid g8
    clear g8
    go_region_with (first
     | (go_at_call 40;refine KC.out.mono ?_;rintro e w5 ⟨rfl,hb5⟩;have HB5:=Lib.hid hb5;have e9:=(hb5.cell h4l).trans e9;clear hb5)
     | (go_at_call 43;refine (zmust_yes 16 _).mono ?_;rintro e w' ⟨rfl,rfl⟩))
    all_goals
     have HRo5:=Lib.hid (HRo4.out.below HB5.out)
     have HSo5:=Lib.hid (HSo4.out.below HB5.out)
     have HEM5:=Lib.hid ((HEMz.out.below HB4.out).below HB5.out)
     have HSL5:=Lib.hid (HSL.out.below HB5.out)
     have HB15:=Lib.hid (HBw4.out.trans (HB5.out.mono HBw4.out.size))
     have m0:=(HRo5.out.cell 0).trans (show _=some (.string r.name) from rfl)
     have m2:=(HRo5.out.cell 2).trans (show _=some (.int .i64 (r.method:Nat)) from rfl)
     have m7:=(HRo5.out.cell 7).trans (show _=some (.int .i64 (r.at_:Nat)) from rfl)
     have m8:=(HRo5.out.cell 8).trans (show _=some (.int .i64 (r.extra:Nat)) from rfl)
     have m3:=(HSo5.out.cell 3).trans (show _=some (.int .i64 (sp.extra:Nat)) from rfl)
     obtain ⟨X,hX⟩:∃ X,X=sp.extra+r.extra:=⟨_,rfl⟩
     have hwX:IntKind.i64.wrap ((sp.extra:Int)+r.extra)=(X:Int):=by rw [wrap_sm _ (by omega) (by omega)];omega
     obtain ⟨L3,hL3⟩:∃ L3,L3=L2-d.length:=⟨_,rfl⟩
     have hwL:IntKind.i64.wrap ((L2:Int)-d.length)=(L3:Int):=by rw [wrap_sm _ (by omega) (by omega)];omega
     have hL3b:L3≤2000000:=by omega
     have HN5:Hid (RES=befD ((ems++[(⟨r.name,d,da,dc,r.method,X,r.at_⟩:Em)]).map fun x:Em=>x.d) (entsP ys (RS.drop (i+1)) L3)):=Lib.hid (by
      have h0:dataE d r=0:=by unfold dataE;rw [if_neg (fun h=>h H7.out),if_neg (fun h=>h (HU.out.symm.trans HG8.out))]
      rw [HST2.out,h0,if_neg (fun h=>h rfl),←hL3,List.map_append]
      cases entsP ys (RS.drop (i+1)) L3 with
      | error e=>rfl
      | ok ds=>simp [befD])
     have HT5:Hid ((ems++[(⟨r.name,d,da,dc,r.method,X,r.at_⟩:Em)]).map tpE=(RS.take (i+1)).map (tpR ys)):=Lib.hid (by
      rw [HTP.out,List.map_append,htp.out,hX,HSPq.out];rfl)
     have HOW5:Hid (w5.ownsRow w1.heap.size 39 5 (.slice a2 i c2) i (emc ems)):=Lib.hid (by have:=HEM5.out.own;rwa [hel] at this)
     have hsz5:w1.heap.size≤w5.heap.size:=HB15.out.size
     have hwrz:wr.heap.size≤wz.heap.size:=by have:=HRo.out.lt;omega
     clear hX hL3 e9 e6
     go_wp2_with (refine wpList_append_g at29 rfl (.tmp 54) (.tmp 68) rfl w1.heap.size (.slice a2 i c2) (.slice (some ⟨w5.heap.size,0,none⟩) 1 1) i 1 (emc ems) (eme (Em.mk r.name d da dc r.method X r.at_)) (by simp [Act.eval]) (by simp [Act.eval]) (World.ownsRow.alloc (w:=w5) HOW5.out _) (cells_blk w5 39 #[.string r.name,.slice da d.length dc,.int .i64 (r.method:Nat),.int .i64 (X:Nat),.int .i64 (r.at_:Nat)]) rfl (eme_one _) (by rw [alloc_size];omega) (by omega) (by omega) ?_;intro ao2 cc2 w6 hA;have hW0:Below w5.heap.size w5 (w5.alloc (.cells #[.string r.name,.slice da d.length dc,.int .i64 (r.method:Nat),.int .i64 (X:Nat),.int .i64 (r.at_:Nat)] 39)):=(Below.refl _ w5).alloc (Nat.le_refl _) _;have HEM6:Hid (Ems w6 w1.heap.size (.slice ao2 (i+1) cc2) (ems++[⟨r.name,d,da,dc,r.method,X,r.at_⟩])):=Lib.hid (Ems.app (HEM5.out.below hW0) (HSL5.out.below hW0) (fun ad had=>by have:=HFR.out ad had;have:=HBz.out.size;omega) (fun _ ad had hc=>by have:=HFR.out ad had;have:=HLW.out _ hc;omega) (by rw [hel];exact hA));have HB6:=Lib.hid (HB15.out.trans ((hW0.mono hsz5).trans (hA.touch.below (B:=w1.heap.size) (by have:=hW0.size;omega) (fun k hk=>(HLW.out k hk).1))));clear hA hW0)
     go_roundw
     case rel=>exact ⟨i+1,L3,ems++[⟨r.name,d,da,dc,r.method,X,r.at_⟩],ao2,cc2,by omega,by go_num,rfl,hL3b,rfl,by simp [hel],HN5,HT5,HEM6,HB6⟩
     case measure=>simp [intOf];omega
  ·obtain rfl:i=n:=by omega
   have hni:¬(i:Int)<i:=by omega
   have HE:Hid (RES = .ok (ems.map (·.d))):=Lib.hid (by rw [hst.out,List.drop_of_length_le (by rw [HLR.out];omega),entsP,befD,List.append_nil])
   have HTP:Hid (ems.map tpE=RS.map (tpR ys)):=Lib.hid (by have:=htp.out;rwa [List.take_of_length_le (by rw [HLR.out];omega)] at this)
   have HEM:=Lib.hid hems.out
   have HBW:=Lib.hid (HB1.out.trans (hbel.out.mono HB1.out.size))
   clear hst htp hems hbel
   go_wp2_with fail
   go_ret
   refine ⟨HBW.out,?_⟩
   rw [HE.out]
   have hem:=HEM.out
   exact ⟨ems,a2,c2,by rw [HLR.out];rfl,by rw [HLR.out];exact ⟨own_base hem.own (by omega),hem.sl,fun x hx ad had=>Nat.le_trans (by omega) (hem.low x hx ad had),hem.apart⟩,HTP.out,rfl⟩
end
end Go.Proofs.YthbbpooobaahiaaGreatDoor.Zz
namespace Go.Proofs.YthbbpooobaahiaaGreatDoor.Cu
set_option maxRecDepth 100000
section
open Go.RowKit
def wf (f:Fd):List Nat:=if f.k=0 then le f.n 2 else if f.k=1 then le f.n 4 else if f.k=2∨f.k=3 then f.b else []
def wrt (l:List Fd):List Nat:=l.flatMap wf
theorem wrt_take {l:List Fd} {i:Nat} {f:Fd} (h:l[i]? = some f):wrt (l.take (i+1))=wrt (l.take i)++wf f:=by
 unfold wrt
 rw [List.take_add_one,h,List.flatMap_append]
 simp
theorem wrt_take_le (l:List Fd) (i:Nat):(wrt (l.take i)).length≤(wrt l).length:=by
 have:wrt l=wrt (l.take i)++wrt (l.drop i):=by
  unfold wrt
  rw [←List.flatMap_append,List.take_append_drop]
 rw [this,List.length_append]
 omega
theorem putn_I (n:Int) (size:Nat) (K:Int) (hK:K=size) (hsz:size≤4) (va:Option Addr) (vc:Nat) (base:Nat) (xs:List Nat) (w:World) (hown:w.ownsRow base 5 1 (.slice va xs.length vc) xs.length (u8s xs)) (hb:base≤w.heap.size) (hl:xs.length≤1000000000) :
  Calls Tryz.prog 64 #[.slice va xs.length vc,.int .i64 n,.int .i64 K] w (PutN base (.slice va xs.length vc) (xs++le n size) w):=by
 subst hK;exact putn_any n size hsz va vc base xs w hown hb hl
def WrOk (bs:List Nat) (w:World) (e:Ending) (w':World):Prop:=∃ ao c,e = .returned (.slice ao bs.length c)∧w'.ownsRow w.heap.size 5 1 (.slice ao bs.length c) bs.length (u8s bs)∧Below w.heap.size w w'
set_option maxHeartbeats 1600000 in
set_option maxRecDepth 100000 in
theorem write_any (lo:Option Addr) (lc:Nat) (l:List Fe) (w:World) (h:Fs w lo l) (hm:l.length≤1000000) (B:List Nat) (hB:wrt (l.map (·.f))=B) (hBl:B.length≤100000000) :
  Calls Tryz.prog 41 #[.slice lo l.length lc] w (WrOk B w):=by
 have HF:=Lib.hid h
 have HW:=Lib.hid hB
 clear h hB
 go_enter Tryz.func41,Tryz.ntmps41
 go_wp2
 go_loopw [3,8] (fun vb vi wr=>∃ (i:Nat) (ao:Option Addr) (c:Nat) (acc:List Nat),i≤l.length∧vi = .int .i64 i∧vb = .slice ao acc.length c∧Hid (acc=wrt ((l.map (·.f)).take i))∧wr.ownsRow w.heap.size 5 1 (.slice ao acc.length c) acc.length (u8s acc)∧Below w.heap.size w wr) (fun _ vi _=>l.length-(intOf vi).toNat)
 case atStart=>exact ⟨0,none,0,[],Nat.zero_le _,rfl,rfl,Lib.hid (by simp [wrt]),World.ownsRow_nil _ _ _ _,Below.refl _ _⟩
 case round=>
  obtain ⟨i,ao,c,acc,hi,rfl,rfl,hacc,hown,hbel⟩:=hrel
  have HO:=Lib.hid hown
  have HB:=Lib.hid hbel
  clear hown hbel
  have hal:acc.length≤100000000:=by
   have:=wrt_take_le (l.map (·.f)) i
   rw [←hacc.out,HW.out] at this
   omega
  by_cases hlt:i<l.length
  ·have hii:(i:Int)<l.length:=by omega
   have hx:l[i]? = some l[i]:=List.getElem?_eq_getElem hlt
   obtain ⟨x,hxe⟩:∃ x,x=l[i]:=⟨_,rfl⟩
   rw [←hxe] at hx
   have hstep:=wrt_take (l:=l.map (·.f)) (i:=i) (f:=x.f) (by rw [List.getElem?_map,hx];rfl)
   have hnl:(acc++wf x.f).length≤100000000:=by
    have:=wrt_take_le (l.map (·.f)) (i+1)
    rw [hstep,←hacc.out,HW.out] at this
    omega
   rw [←hacc.out] at hstep
   have HST:=Lib.hid hstep
   obtain ⟨g,rfl,hF⟩:=(HF.out.below HB.out).get hx
   have c0:=hF.c0
   have c1:=hF.c1
   have c2:=hF.c2
   have hgb:g<wr.heap.size:=World.block_lt_of_cell? wr _ c0
   have HSL:=Lib.hid hF.sl
   obtain ⟨⟨k,n,b⟩,bo,bc⟩:=x
   simp only at c0 c1 c2 HSL HST hnl
   clear hF hx hxe hstep
   have HO1:Hid (∀ W,Below wr.heap.size wr W→W.ownsRow w.heap.size 5 1 (.slice ao acc.length c) acc.length (u8s acc)):=Lib.hid fun W hW=>ownsRow_below HO.out hW
   by_cases h0:k=0
   ·subst h0
    have hwf:wf ⟨0,n,b⟩=le n 2:=by simp [wf]
    rw [hwf] at HST hnl
    have K1:=Lib.hid fun (W:World) (hW:Below wr.heap.size wr W)=>putn_I n 2 2 rfl (by omega) ao c w.heap.size acc W (HO1.out W hW) (by have:=HB.out.size;have:=hW.size;omega) (by omega)
    clear hwf
    go_wp2_with (go_at_call 64;(with_reducible refine (K1.out _ ((Below.refl _ _).alloc (Nat.le_refl _) _)).mono ?_);rintro e w3 ⟨ao3,c3,rfl,hA3⟩;have HA3:=Lib.hid hA3.alloc;clear hA3)
    have HB3:=Lib.hid (HB.out.trans (HA3.out.below (HO1.out _ (Below.refl _ _)) HB.out.size))
    go_roundw
    case rel=>exact ⟨i+1,ao3,c3,acc++le n 2,by omega,by go_num,by rw [List.length_append],Lib.hid HST.out.symm,HA3.out.own,HB3.out⟩
    case measure=>simp [intOf];omega
   by_cases h1:k=1
   ·subst h1
    have hwf:wf ⟨1,n,b⟩=le n 4:=by simp [wf]
    rw [hwf] at HST hnl
    have K1:=Lib.hid fun (W:World) (hW:Below wr.heap.size wr W)=>putn_I n 4 4 rfl (by omega) ao c w.heap.size acc W (HO1.out W hW) (by have:=HB.out.size;have:=hW.size;omega) (by omega)
    clear hwf
    go_wp2_with (go_at_call 64;(with_reducible refine (K1.out _ ((Below.refl _ _).alloc (Nat.le_refl _) _)).mono ?_);rintro e w3 ⟨ao3,c3,rfl,hA3⟩;have HA3:=Lib.hid hA3.alloc;clear hA3)
    have HB3:=Lib.hid (HB.out.trans (HA3.out.below (HO1.out _ (Below.refl _ _)) HB.out.size))
    go_roundw
    case rel=>exact ⟨i+1,ao3,c3,acc++le n 4,by omega,by go_num,by rw [List.length_append],Lib.hid HST.out.symm,HA3.out.own,HB3.out⟩
    case measure=>simp [intOf];omega
   by_cases h23:k=2∨k=3
   ·have hwf:wf ⟨k,n,b⟩=b:=by simp [wf,h0,h1,h23]
    rw [hwf] at HST hnl
    rw [List.length_append] at hnl
    have HC:Hid (∀ W,Below wr.heap.size wr W→CellsAt W (.slice bo b.length bc) b.length (u8s b)):=Lib.hid fun W hW=>(HSL.out.below hW).cells
    clear hwf
    rcases h23 with rfl | rfl
    all_goals
     clear h0 h1
     go_wp2_with (at_builtin;refine wpList_append_x at22 rfl (.tmp 29) (.tmp 31) rfl w.heap.size (.slice ao acc.length c) (.slice bo b.length bc) acc.length b.length (u8s acc) (u8s b) rfl rfl (HO1.out _ ((Below.refl _ _).alloc (Nat.le_refl _) _)) (HC.out _ ((Below.refl _ _).alloc (Nat.le_refl _) _)) (by rw [u8s_len,Nat.mul_one]) (u8s_one b) (by have:=HB.out.size;simp;omega) (by omega) (by omega) ?c2)
     case c2=>
     intro ao3 c3 w3 hA3
     have hA4:=hA3.alloc
     rw [u8s_app,←List.length_append] at hA4
     have HA3:=Lib.hid hA4
     rw [←List.length_append]
     clear hA3 hA4
     have HB3:=Lib.hid (HB.out.trans (HA3.out.below (HO1.out _ (Below.refl _ _)) HB.out.size))
     obtain ⟨N,hN⟩:∃ N,N=(acc++b).length:=⟨_,rfl⟩
     rw [←hN]
     have HN:=Lib.hid hN
     clear hN
     go_wp2
     go_roundw
     case rel=>exact ⟨i+1,ao3,c3,acc++b,by omega,by go_num,by rw [HN.out],Lib.hid HST.out.symm,HA3.out.own,HB3.out⟩
     case measure=>simp [intOf];omega
   ·have h2:¬k=2:=fun e=>h23 (.inl e)
    have h3:¬k=3:=fun e=>h23 (.inr e)
    have hwf:wf ⟨k,n,b⟩=[]:=by simp [wf,h0,h1,h2,h3]
    rw [hwf,List.append_nil] at HST
    have HO2:=Lib.hid (HO1.out _ ((Below.refl _ _).alloc (Nat.le_refl _) (.cells #[.int .i64 k,.int .i64 (n:Nat),.slice bo b.length bc] 84)))
    have HB2:=Lib.hid (HB.out.alloc HB.out.size (.cells #[.int .i64 k,.int .i64 (n:Nat),.slice bo b.length bc] 84))
    clear hwf h23
    go_wp2
    go_roundw
    case rel=>exact ⟨i+1,ao,c,acc,by omega,by go_num,rfl,Lib.hid HST.out.symm,HO2.out,HB2.out⟩
    case measure=>simp [intOf];omega
  ·have hil:i=l.length:=by omega
   have hacc':acc=B:=by rw [hacc.out,←HW.out,List.take_of_length_le (by rw [List.length_map];omega)]
   subst hacc'
   have HP:Hid (WrOk acc w (.returned (.slice ao acc.length c)) wr):=Lib.hid ⟨ao,c,rfl,HO.out,HB.out⟩
   subst hil
   clear hacc
   go_wp2
   go_ret
   exact HP.out
end
end Go.Proofs.YthbbpooobaahiaaGreatDoor.Cu
namespace Go.Proofs.YthbbpooobaahiaaGreatDoor.Zz
set_option maxRecDepth 100000
theorem rowsP_len {ys:List Nat}:∀ {n p:Nat} {acc l:List Rw},rowsP ys n p acc = .ok l→l.length=acc.length+n:=by
 intro n
 induction n with
 | zero=>
  intro p acc l h
  rw [rowsP] at h
  split at h
  ·cases h;rfl
  ·cases h
 | succ k ih=>
  intro p acc l h
  rw [rowsP] at h
  split at h
  ·cases h
  ·split at h
   ·cases h
   ·have:=ih h;simp at this;omega
def totD (ds:List (List Nat)):Nat:=(ds.map List.length).sum
theorem openP_is {xs:List Nat} {B E:Int} {l:List Rw} {f e:Nat} (h:openP xs B E = .ok (l,f,e)) :
  (xs.length:Int)≤max B 0∧endP xs=some e∧endE xs e E=0∧rowsP (xs.take e) (nu2 xs (e+10)) (nu4 xs (e+16)) [] = .ok l∧f=nu4 xs (e+16):=by
 unfold openP at h
 split at h
 ·cases h
 ·cases he:endP xs with
  | none=>rw [he] at h;cases h
  | some e'=>
   rw [he] at h
   simp only at h
   split at h
   ·cases h
   ·rename_i h0
    cases hr:rowsP (xs.take e') (nu2 xs (e'+10)) (nu4 xs (e'+16)) [] with
    | error q=>rw [hr] at h;cases h
    | ok l'=>
     rw [hr] at h
     cases h
     exact ⟨by omega,rfl,Classical.not_not.1 h0,hr,rfl⟩
theorem readP_is {xs:List Nat} {B E T:Int} {l:List Rw} {f:Nat} {d:List (List Nat)} (h:readP xs B E T = .ok (l,f,d)) :
  ∃ e,openP xs B E = .ok (l,f,e)∧spotsE (xs.take f) l=0∧clashP (l.map (spotS (xs.take f)))=false∧entsP (xs.take f) l T.toNat = .ok d:=by
 unfold readP at h
 cases ho:openP xs B E with
 | error q=>rw [ho] at h;cases h
 | ok x=>
  obtain ⟨l',f',e'⟩:=x
  rw [ho] at h
  simp only at h
  split at h
  ·cases h
  ·rename_i h0
   split at h
   ·cases h
   ·rename_i h1
    cases hr:entsP (xs.take f') l' T.toNat with
    | error q=>rw [hr] at h;cases h
    | ok d'=>
     rw [hr] at h
     cases h
     exact ⟨e',rfl,Classical.not_not.1 h0,by simpa using h1,hr⟩
end Go.Proofs.YthbbpooobaahiaaGreatDoor.Zz
