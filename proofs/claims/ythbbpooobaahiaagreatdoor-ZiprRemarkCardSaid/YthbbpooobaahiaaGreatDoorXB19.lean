/- Part 19. -/
import Derived.Test.YthbbpooobaahiaaGreatDoorXB16
import Derived.Test.YthbbpooobaahiaaGreatDoorXB18
namespace Go.Proofs.YthbbpooobaahiaaGreatDoor.Zz
set_option maxRecDepth 100000
section
open Go.RowKit
section
variable {P:Program} {md:Region.Mode} {ops:Array Oper} {Q:Exit→Act→World→Prop} {S:World→Prop} {fuel:Nat} {listed:Array Bool} {w:World} {l:List Value} {ds:List Deferred} {oi:Oper} {k:Nat}
theorem tA (i:Nat) (v:Value) (hS:S w) (h:wpAnyH P md ops Q S fuel (listed.setIfInBounds i true) ⟨(l.set k v).toArray,ds⟩ w) (hi:ops[i]? = some oi:=by rfl) (hk:oi.dst=some k:=by rfl) (hs:Region.noSelect ops=true:=by kernel_rfl) (hf:Region.free md ops listed i=true:=by kernel_rfl)
  (hr:(Region.ready md ops listed).contains i=true:=by kernel_rfl) (hw:Region.wanted oi (yielded ops l.toArray)=true:=by rfl) (hy:∀ W,S W→(execOp (Act.eval ⟨l.toArray,ds⟩) oi).run P W = .ok (.value v) W:=by (intro W hSw;obtain ⟨x0,x1,x2,x3,x4⟩:=hSw;go_simp))
  (hQ:∀ c a w,Q (.panic c) (a.put oi.dst v) w→Q (.panic c) a w:=by (intro c a w h;exact h)):wpAnyH P md ops Q S (fuel+1) listed ⟨l.toArray,ds⟩ w:=by
 refine wpAnyH_take hi hs hf hr hQ (.inl ⟨hw,hy⟩) hS ?_
 rw [hk]
 unfold Act.put
 simpa using h
end
def R1To (xs:List Nat) (b3:Nat) (tr:Except Nat (List Rw × Nat × List (List Nat))) (w:World) (en:Ending) (w':World):Prop:=
 Touch (fun k=>k=b3) w w'∧match tr with
  | .error er=>en=zpan er∧Blk w' b3 29 #[.slice none 0 0]
  | .ok (l,f,ds)=>∃ (ems:List Em) (a:Option Addr) (c:Nat),en = .returned (.tuple #[])∧Blk w' b3 29 #[.slice a l.length c]∧Ems w' w.heap.size (.slice a l.length c) ems∧ems.map tpE=l.map (tpR (xs.take f))∧ems.map (·.d)=ds
theorem R1To.bad {xs:List Nat} {b3:Nat} {tr:Except Nat (List Rw × Nat × List (List Nat))} {w w':World} (er:Nat) (h:tr = .error er) (hb:Below w.heap.size w w') (hk:Blk w b3 29 #[.slice none 0 0]):R1To xs b3 tr w (zpan er) w':=by
 subst h;exact ⟨Touch.of_below hb,rfl,hk.below hb⟩
set_option maxHeartbeats 3200000 in
theorem read1_any (ao:Option Addr) (cap:Nat) (xs:List Nat) (B E T:Int) (b1 b2 b3:Nat) (w:World) (hT:TZ w) (h:Cu.Sl w ao cap xs) (hm:xs.length≤100000) (hTm:T≤2000000)
  (h1:Blk w b1 22 #[.slice ao xs.length cap]) (h2:Blk w b2 24 #[.int .i64 B,.int .i64 E,.int .i64 T]) (h3:Blk w b3 29 #[.slice none 0 0]) :
  Calls Tryz.prog 24 #[.pointer (some ⟨b1,0,none⟩),.pointer (some ⟨b2,0,none⟩),.pointer (some ⟨b3,0,none⟩)] w (R1To xs b3 (readP xs B E T) w):=by
 obtain ⟨RES,hRES⟩:∃ RES,RES=readP xs B E T:=⟨_,rfl⟩
 rw [←hRES]
 have K25:=opened_any ao cap xs B E T w hT h (by omega)
 have p0:=(h1.cell 0).trans (show _=some (.slice ao xs.length cap) from rfl)
 have q0:=(h2.cell 0).trans (show _=some (.int .i64 B) from rfl)
 have q1:=(h2.cell 1).trans (show _=some (.int .i64 E) from rfl)
 have q2:=(h2.cell 2).trans (show _=some (.int .i64 T) from rfl)
 have H1:=Lib.hid h1
 have H2:=Lib.hid h2
 have H3:=Lib.hid h3
 have HS:=Lib.hid h
 have HT:=Lib.hid hT
 have hbs:Bs xs:=h.bs
 clear h1 h2 h3 h hT
 cases ho:openP xs B E with
 | error er=>
  rw [ho] at K25
  have K25:Hid (Calls Tryz.prog 25 #[.slice ao xs.length cap,.agg #[.int .i64 B,.int .i64 E,.int .i64 T]] w fun en w'=>Below w.heap.size w w'∧en=zpan er):=Lib.hid K25
  have HE:Hid (RES = .error er):=Lib.hid (by rw [hRES];unfold readP;rw [ho])
  clear ho hRES
  go_enter Tryz.func24,Tryz.ntmps24
  go_wp2_with (go_at_call 25;refine K25.out.mono ?_;rintro en w5 ⟨hb5,rfl⟩)
  exact ⟨rfl,R1To.bad er HE.out hb5 H3.out⟩
 | ok x=>
  obtain ⟨l,f,e⟩:=x
  rw [ho] at K25
  have K25:Hid (Calls Tryz.prog 25 #[.slice ao xs.length cap,.agg #[.int .i64 B,.int .i64 E,.int .i64 T]] w fun en w'=>Below w.heap.size w w'∧∃ (rms:List Rm) (a1:Option Addr) (c1:Nat),rms.map (·.r)=l∧en = .returned (.agg #[.slice ao xs.length cap,.int .i64 (f:Nat),.int .i64 (e:Nat),.slice a1 rms.length c1])∧Rms w' w.heap.size (.slice a1 rms.length c1) rms):=Lib.hid K25
  have hRO:=readP_open (T:=T) ho
  rw [←hRES] at hRO
  have HRO:=Lib.hid hRO
  have HFT:=Lib.hid (openP_fit hbs ho)
  clear ho hRES hRO
  go_enter Tryz.func24,Tryz.ntmps24
  go_upto_region 1 with (go_at_call 25;refine K25.out.mono ?_;rintro en w2 ⟨hb2,rms,a1,c1,hl,rfl,hrm⟩)
  obtain ⟨w3,hw3⟩:∃ w3,w3=w2.alloc (.cells #[.slice ao xs.length cap,.int .i64 (f:Nat),.int .i64 (e:Nat),.slice a1 rms.length c1] 61):=⟨_,rfl⟩
  have hb3:Below w2.heap.size w2 w3:=by rw [hw3];exact (Below.refl _ w2).alloc (Nat.le_refl _) _
  have hB:Below w.heap.size w w3:=hb2.trans (hb3.mono hb2.size)
  have hQ:Blk w3 w2.heap.size 61 #[.slice ao xs.length cap,.int .i64 (f:Nat),.int .i64 (e:Nat),.slice a1 rms.length c1]:=by rw [hw3];exact Blk.made _ _ _
  rw [←hw3]
  obtain ⟨hfit,hln,hfx,_,_⟩:=HFT.out
  rw [←hl] at hfit
  have hfr:∀ x∈rms,Rfit x.r∧x.r.extra<65536:=fun x hx=>hfit x.r (List.mem_map.2 ⟨x,hx,rfl⟩)
  have hrl:rms.length≤65535:=by rw [←hl,List.length_map] at hln;exact hln
  have hR3:=hrm.below hb3
  have hS3:=HS.out.below hB
  have hbd:Below w3.heap.size w3 w3.drew:=(Below.refl _ w3).drew
  have K27:=spots_any ao cap xs f e w.heap.size a1 c1 rms w3.drew (hS3.below hbd) (hR3.below hbd) (fun x hx=>(hfr x hx).1) hfx (by omega) hrl
  rw [hl] at K27
  have s0:=(hQ.cell 0).trans (show _=some (.slice ao xs.length cap) from rfl)
  have s1:=(hQ.cell 1).trans (show _=some (.int .i64 (f:Nat)) from rfl)
  have s2:=(hQ.cell 2).trans (show _=some (.int .i64 (e:Nat)) from rfl)
  have s3:=(hQ.cell 3).trans (show _=some (.slice a1 rms.length c1) from rfl)
  have q2:=((H2.out.below hB).cell 2).trans (show _=some (.int .i64 T) from rfl)
  have HQ:=Lib.hid hQ
  have HB:=Lib.hid hB
  have HR3:=Lib.hid hR3
  have HS3:=Lib.hid hS3
  have HFR:=Lib.hid hfr
  have HLR:=Lib.hid hl
  have H33:=Lib.hid (H3.out.below hB)
  have H23:=Lib.hid (H2.out.below hB)
  have hq2l:w2.heap.size<w3.heap.size:=hQ.lt
  have hwl:w.heap.size≤w2.heap.size:=hb2.size
  have hb2l:b2<w3.heap.size:=H23.out.lt
  have hb3l:b3<w.heap.size:=H3.out.lt
  clear hw3 hQ hB hfit hln hfr hR3 hS3 hbd hl hrm hb2 hb3 p0 q0 q1 K25 HFT
  obtain ⟨L,hL⟩:∃ L:Nat,L=T.toNat:=⟨_,rfl⟩
  have hmax:max T 0=(L:Int):=by omega
  have hL2:L≤2000000:=by omega
  rw [←hL] at HRO
  clear hL
  by_cases hp:spotsE (xs.take f) l≠0∨clashP (l.map (spotS (xs.take f)))=true
  ·obtain ⟨er,K27,HE⟩:∃ er,Hid (Calls Tryz.prog 27 #[.agg #[.slice ao xs.length cap,.int .i64 (f:Nat),.int .i64 (e:Nat),.slice a1 rms.length c1]] w3.drew fun en w'=>Below w3.heap.size w3 w'∧en=zpan er)∧Hid (RES = .error er):=by
    by_cases h1:spotsE (xs.take f) l=0
    ·have h2:clashP (l.map (spotS (xs.take f)))=true:=hp.resolve_left (fun h=>h h1)
     refine ⟨18,Lib.hid (K27.mono fun en w' hh=>?_),Lib.hid (by rw [HRO.out,if_neg (fun h=>h h1),if_pos h2])⟩
     obtain ⟨hb,⟨h3,_⟩ | ⟨_,_,h3⟩ | ⟨_,h3,_⟩⟩:=hh
     ·exact absurd h1 h3
     ·exact ⟨(below_drewN (Below.refl w3.heap.size w3) 1).trans hb,h3⟩
     ·rw [h2] at h3;cases h3
    ·refine ⟨spotsE (xs.take f) l,Lib.hid (K27.mono fun en w' hh=>?_),Lib.hid (by rw [HRO.out,if_pos h1])⟩
     obtain ⟨hb,⟨_,h3⟩ | ⟨h3,_⟩ | ⟨h3,_⟩⟩:=hh
     ·exact ⟨(below_drewN (Below.refl w3.heap.size w3) 1).trans hb,h3⟩
     ·exact absurd h3 h1
     ·exact absurd h3 h1
   clear hp HRO
   refine wp_region_held_drew (S:=fun W=>W.cell? ⟨w2.heap.size,0,none⟩=some (.slice ao xs.length cap)∧W.cell? ⟨w2.heap.size,1,none⟩=some (.int .i64 (f:Nat))∧W.cell? ⟨w2.heap.size,2,none⟩=some (.int .i64 (e:Nat))∧W.cell? ⟨w2.heap.size,3,none⟩=some (.slice a1 rms.length c1)∧W.cell? ⟨b2,2,none⟩=some (.int .i64 T)) (by kernel_rfl) ⟨s0,s1,s2,s3,q2⟩ (fun hHeld=>?_)
   refine tA 0 (.agg #[.slice ao xs.length cap,.int .i64 (f:Nat),.int .i64 (e:Nat),.slice a1 rms.length c1]) hHeld ?_
   refine tA 1 (.agg #[.slice ao xs.length cap,.int .i64 (f:Nat),.int .i64 (e:Nat),.slice a1 rms.length c1]) hHeld ?_
   refine tA 3 (.pointer (some ⟨b2,2,none⟩)) hHeld ?_
   refine tA 4 (.int .i64 T) hHeld ?_
   refine tA 5 (.int .i64 (L:Nat)) hHeld ?_
   try simp only [List.set_cons_zero,List.set_cons_succ]
   refine wpAnyH_ready (rs:=[2]) (by kernel_rfl) (by simp) ?_
   refine AllReadyH.cons (o:={ dst:=some 9,op:=Op.call { callee:=Callee.value (Operand.func 27),args := #[Operand.tmp 8],argTypes := #[61] },type:=64,pos := "zipr.go:104",after := #[{ on:=1,ground:=Ground.data }],guard:=none }) rfl (fun K hK=>?_) AllReadyH.nil
   go_simp
   go_at_call 27
   refine K27.out.mono ?_
   rintro en w4 ⟨hb4,rfl⟩
   exact ⟨rfl,R1To.bad er HE.out (HB.out.trans (hb4.mono HB.out.size)) H3.out⟩
  have h1:spotsE (xs.take f) l=0:=Classical.not_not.1 fun h=>hp (.inl h)
  have h2:¬clashP (l.map (spotS (xs.take f)))=true:=fun h=>hp (.inr h)
  have HRO2:Hid (RES=match entsP (xs.take f) l L with
    | .error e => .error e
    | .ok d => .ok (l,f,d)):=Lib.hid (by rw [HRO.out,if_neg (fun h=>h h1),if_neg h2];rfl)
  have K27:Hid (Calls Tryz.prog 27 #[.agg #[.slice ao xs.length cap,.int .i64 (f:Nat),.int .i64 (e:Nat),.slice a1 rms.length c1]] w3.drew fun en w'=>Below w3.heap.size w3 w'∧∃ a c,en = .returned (.slice a rms.length c)∧w'.ownsRow w3.heap.size 93 4 (.slice a rms.length c) rms.length (spc (l.map (spotS (xs.take f))))):=Lib.hid (K27.mono fun en w' hh=>by
   obtain ⟨hb,⟨h3,_⟩ | ⟨_,h3,_⟩ | ⟨_,_,a,c,h3,h4⟩⟩:=hh
   ·exact absurd h1 h3
   ·exact absurd h3 h2
   ·rw [←HLR.out,List.length_map] at h3 h4
    rw [←HLR.out]
    exact ⟨(below_drewN (Below.refl w3.heap.size w3) 1).trans hb,a,c,h3,h4⟩)
  have HSP:=Lib.hid (spotsE_mem h1)
  have K26:Hid (∀ W,Below w3.heap.size w3 W→∀ sa sc,W.ownsRow w3.heap.size 93 4 (.slice sa rms.length sc) rms.length (spc (l.map (spotS (xs.take f))))→Calls Tryz.prog 26 #[.agg #[.slice ao xs.length cap,.int .i64 (f:Nat),.int .i64 (e:Nat),.slice a1 rms.length c1],.slice sa rms.length sc,.int .i64 (L:Nat)] W (EnTo (xs.take f) l (entsP (xs.take f) l L) W)):=Lib.hid fun W hW sa sc hsr=>by
   have:=entries_any ao cap xs f e w.heap.size a1 c1 rms sa sc L W (HT.out.grow (HB.out.trans (hW.mono HB.out.size))) (HS3.out.below hW) (HR3.out.below hW) (fun x hx=>(HFR.out x hx).1) (fun x hx=>HSP.out x.r (by rw [←HLR.out];exact List.mem_map.2 ⟨x,hx,rfl⟩)) w3.heap.size (by rw [HLR.out];exact hsr) hfx hm hrl (fun x hx=>(HFR.out x hx).2) hL2
   rwa [HLR.out] at this
  clear hp h1 h2 HRO hTm HFR HSP
  cases he:entsP (xs.take f) l L with
  | error er=>
   rw [he] at HRO2
   have HE:Hid (RES = .error er):=Lib.hid HRO2.out
   have K26:Hid (∀ W,Below w3.heap.size w3 W→∀ sa sc,W.ownsRow w3.heap.size 93 4 (.slice sa rms.length sc) rms.length (spc (l.map (spotS (xs.take f))))→Calls Tryz.prog 26 #[.agg #[.slice ao xs.length cap,.int .i64 (f:Nat),.int .i64 (e:Nat),.slice a1 rms.length c1],.slice sa rms.length sc,.int .i64 (L:Nat)] W fun en w'=>Below W.heap.size W w'∧en=zpan er):=Lib.hid fun W hW sa sc hsr=>by
    have:=K26.out W hW sa sc hsr
    rw [he] at this
    exact this
   clear he HRO2
   refine wp_region_held_drew (S:=fun W=>W.cell? ⟨w2.heap.size,0,none⟩=some (.slice ao xs.length cap)∧W.cell? ⟨w2.heap.size,1,none⟩=some (.int .i64 (f:Nat))∧W.cell? ⟨w2.heap.size,2,none⟩=some (.int .i64 (e:Nat))∧W.cell? ⟨w2.heap.size,3,none⟩=some (.slice a1 rms.length c1)∧W.cell? ⟨b2,2,none⟩=some (.int .i64 T)) (by kernel_rfl) ⟨s0,s1,s2,s3,q2⟩ (fun hHeld=>?_)
   refine tA 0 (.agg #[.slice ao xs.length cap,.int .i64 (f:Nat),.int .i64 (e:Nat),.slice a1 rms.length c1]) hHeld ?_
   refine tA 1 (.agg #[.slice ao xs.length cap,.int .i64 (f:Nat),.int .i64 (e:Nat),.slice a1 rms.length c1]) hHeld ?_
   refine tA 3 (.pointer (some ⟨b2,2,none⟩)) hHeld ?_
   refine tA 4 (.int .i64 T) hHeld ?_
   refine tA 5 (.int .i64 (L:Nat)) hHeld ?_
   try simp only [List.set_cons_zero,List.set_cons_succ]
   refine wpAnyH_ready (rs:=[2]) (by kernel_rfl) (by simp) ?_
   refine AllReadyH.cons (o:={ dst:=some 9,op:=Op.call { callee:=Callee.value (Operand.func 27),args := #[Operand.tmp 8],argTypes := #[61] },type:=64,pos := "zipr.go:104",after := #[{ on:=1,ground:=Ground.data }],guard:=none }) rfl (fun K hK=>?_) AllReadyH.nil
   go_simp
   go_at_call 27
   refine K27.out.mono ?_
   rintro en w4 ⟨hb4,sa,sc,rfl,hsr⟩
   have hbx:=HQ.out.below hb4
   have hcx:=H23.out.below hb4
   have KK:=K26.out w4 hb4 sa sc hsr
   refine hK.out _ _ ⟨(hbx.cell 0).trans rfl,(hbx.cell 1).trans rfl,(hbx.cell 2).trans rfl,(hbx.cell 3).trans rfl,(hcx.cell 2).trans rfl⟩ (fun hHeld=>?_)
   try simp only [Act.put,List.setIfInBounds_toArray,List.set_cons_zero,List.set_cons_succ]
   refine wpAnyH_ready (rs:=[6]) (by kernel_rfl) (by simp) ?_
   refine AllReadyH.cons (o:={ dst:=some 13,op:=Op.call { callee:=Callee.value (Operand.func 26),args := #[Operand.tmp 7,Operand.tmp 9,Operand.tmp 12],argTypes := #[61,64,3] },type:=29,pos := "zipr.go:104",after := #[{ on:=0,ground:=Ground.data },{ on:=2,ground:=Ground.data },{ on:=5,ground:=Ground.data },{ on:=2,ground:=Ground.chain }],guard:=none }) rfl (fun K hK=>?_) AllReadyH.nil
   go_simp
   go_at_call 26
   refine KK.mono ?_
   rintro en w5 ⟨hb5,rfl⟩
   exact ⟨rfl,R1To.bad er HE.out (HB.out.trans ((hb4.trans (hb5.mono hb4.size)).mono HB.out.size)) H3.out⟩
  | ok ds=>
   rw [he] at HRO2
   have HE:Hid (RES = .ok (l,f,ds)):=Lib.hid HRO2.out
   have K26:Hid (∀ W,Below w3.heap.size w3 W→∀ sa sc,W.ownsRow w3.heap.size 93 4 (.slice sa rms.length sc) rms.length (spc (l.map (spotS (xs.take f))))→Calls Tryz.prog 26 #[.agg #[.slice ao xs.length cap,.int .i64 (f:Nat),.int .i64 (e:Nat),.slice a1 rms.length c1],.slice sa rms.length sc,.int .i64 (L:Nat)] W fun en w'=>Below W.heap.size W w'∧∃ (ems:List Em) (a:Option Addr) (c:Nat),en = .returned (.slice a l.length c)∧Ems w' W.heap.size (.slice a l.length c) ems∧ems.map tpE=l.map (tpR (xs.take f))∧ems.map (·.d)=ds):=Lib.hid fun W hW sa sc hsr=>by
    have:=K26.out W hW sa sc hsr
    rw [he] at this
    exact this
   clear he HRO2
   have hne:b2≠b3:=fun h0=>by
    have e1:w3.heap[b2]? = _:=H23.out
    have e2:w3.heap[b3]? = _:=H33.out
    rw [h0,e2] at e1
    simp at e1
   refine wp_region_held_drew (S:=fun W=>W.cell? ⟨w2.heap.size,0,none⟩=some (.slice ao xs.length cap)∧W.cell? ⟨w2.heap.size,1,none⟩=some (.int .i64 (f:Nat))∧W.cell? ⟨w2.heap.size,2,none⟩=some (.int .i64 (e:Nat))∧W.cell? ⟨w2.heap.size,3,none⟩=some (.slice a1 rms.length c1)∧W.cell? ⟨b2,2,none⟩=some (.int .i64 T)) (by kernel_rfl) ⟨s0,s1,s2,s3,q2⟩ (fun hHeld=>?_)
   refine tA 0 (.agg #[.slice ao xs.length cap,.int .i64 (f:Nat),.int .i64 (e:Nat),.slice a1 rms.length c1]) hHeld ?_
   refine tA 1 (.agg #[.slice ao xs.length cap,.int .i64 (f:Nat),.int .i64 (e:Nat),.slice a1 rms.length c1]) hHeld ?_
   refine tA 3 (.pointer (some ⟨b2,2,none⟩)) hHeld ?_
   refine tA 4 (.int .i64 T) hHeld ?_
   refine tA 5 (.int .i64 (L:Nat)) hHeld ?_
   try simp only [List.set_cons_zero,List.set_cons_succ]
   refine wpAnyH_ready (rs:=[2]) (by kernel_rfl) (by simp) ?_
   refine AllReadyH.cons (o:={ dst:=some 9,op:=Op.call { callee:=Callee.value (Operand.func 27),args := #[Operand.tmp 8],argTypes := #[61] },type:=64,pos := "zipr.go:104",after := #[{ on:=1,ground:=Ground.data }],guard:=none }) rfl (fun K hK=>?_) AllReadyH.nil
   go_simp
   go_at_call 27
   refine K27.out.mono ?_
   rintro en w4 ⟨hb4,sa,sc,rfl,hsr⟩
   have hbx:=HQ.out.below hb4
   have hcx:=H23.out.below hb4
   have KK:=K26.out w4 hb4 sa sc hsr
   refine hK.out _ _ ⟨(hbx.cell 0).trans rfl,(hbx.cell 1).trans rfl,(hbx.cell 2).trans rfl,(hbx.cell 3).trans rfl,(hcx.cell 2).trans rfl⟩ (fun hHeld=>?_)
   try simp only [Act.put,List.setIfInBounds_toArray,List.set_cons_zero,List.set_cons_succ]
   refine wpAnyH_ready (rs:=[6]) (by kernel_rfl) (by simp) ?_
   refine AllReadyH.cons (o:={ dst:=some 13,op:=Op.call { callee:=Callee.value (Operand.func 26),args := #[Operand.tmp 7,Operand.tmp 9,Operand.tmp 12],argTypes := #[61,64,3] },type:=29,pos := "zipr.go:104",after := #[{ on:=0,ground:=Ground.data },{ on:=2,ground:=Ground.data },{ on:=5,ground:=Ground.data },{ on:=2,ground:=Ground.chain }],guard:=none }) rfl (fun K hK=>?_) AllReadyH.nil
   go_simp
   go_at_call 26
   refine KK.mono ?_
   rintro en w5 ⟨hb5,ems,a,c,rfl,hem,htp,hds⟩
   have hb35:Below w3.heap.size w3 w5:=hb4.trans (hb5.mono hb4.size)
   have hbx:=HQ.out.below hb35
   have hcx:=H23.out.below hb35
   have hdx:=H33.out.below hb35
   refine hK.out _ _ ⟨(hbx.cell 0).trans rfl,(hbx.cell 1).trans rfl,(hbx.cell 2).trans rfl,(hbx.cell 3).trans rfl,(hcx.cell 2).trans rfl⟩ (fun hHeld=>?_)
   try simp only [Act.put,List.setIfInBounds_toArray,List.set_cons_zero,List.set_cons_succ]
   have t0:=(hdx.cell 0).trans (show _=some (.slice none 0 0) from rfl)
   have t1:=hdx.free 0
   have hfin:=hdx.setCell 0 (.slice a l.length c)
   have htf:Touch (fun k=>k=b3) w5 (w5.setCell ⟨b3,0,none⟩ (.slice a l.length c)):=(Touch.refl (fun k=>k=b3) w5).setCell ⟨b3,0,none⟩ (.slice a l.length c) (.inl rfl)
   have HB5:=Lib.hid (HB.out.trans (hb35.mono HB.out.size))
   have hbx2:=hbx.touch htf (by omega)
   have hcx2:=hcx.touch htf hne
   refine wpAnyH_ready (rs:=[7]) (by kernel_rfl) (by simp) ?_
   refine AllReadyH.cons (o:={ dst:=none,op:=Op.store 29 (Operand.tmp 2) (Operand.tmp 13),type:=0,pos := "zipr.go:104",after := #[{ on:=6,ground:=Ground.data },{ on:=6,ground:=Ground.chain },{ on:=0,ground:=Ground.phase },{ on:=1,ground:=Ground.phase },{ on:=2,ground:=Ground.phase },{ on:=3,ground:=Ground.phase },{ on:=4,ground:=Ground.phase },{ on:=5,ground:=Ground.phase },{ on:=6,ground:=Ground.phase }],guard:=none }) rfl (fun K hK=>?_) AllReadyH.nil
   go_simp
   refine hK.out _ _ ⟨(hbx2.cell 0).trans rfl,(hbx2.cell 1).trans rfl,(hbx2.cell 2).trans rfl,(hbx2.cell 3).trans rfl,(hcx2.cell 2).trans rfl⟩ (fun hHeld=>?_)
   refine wpAnyH_done (by kernel_rfl) ?_ _
   go_end0
   have hem5:=hem.touch htf (fun k hk=>by rw [hk];have:=hb4.size;have:=HB.out.size;omega)
   have hbz:w.heap.size≤w4.heap.size:=by have:=hb4.size;have:=HB.out.size;omega
   refine ⟨(Touch.of_below HB5.out:Touch (fun k=>k=b3) w w5).setCell _ _ (.inl rfl),?_⟩
   rw [HE.out]
   exact ⟨ems,a,c,rfl,hfin,⟨own_base hem5.own hbz,hem5.sl,fun x hx ad had=>Nat.le_trans hbz (hem5.low x hx ad had),hem5.apart⟩,htp,hds⟩
def S1To (b3:Nat) (tr:Except Nat (List Rw × Nat × Nat)) (w:World) (en:Ending) (w':World):Prop:=
 Touch (fun k=>k=b3) w w'∧match tr with
  | .error er=>en=zpan er∧Blk w' b3 42 #[.slice none 0 0]
  | .ok (l,_,_)=>∃ (rms:List Rm) (a:Option Addr) (c:Nat),en = .returned (.tuple #[])∧Blk w' b3 42 #[.slice a rms.length c]∧rms.map (·.r)=l∧Rms w' w.heap.size (.slice a rms.length c) rms
set_option maxHeartbeats 1600000 in
theorem rows1_any (ao:Option Addr) (cap:Nat) (xs:List Nat) (B E T:Int) (b1 b2 b3:Nat) (w:World) (hT:TZ w) (h:Cu.Sl w ao cap xs) (hm:xs.length≤100000)
  (h1:Blk w b1 22 #[.slice ao xs.length cap]) (h2:Blk w b2 24 #[.int .i64 B,.int .i64 E,.int .i64 T]) (h3:Blk w b3 42 #[.slice none 0 0]) :
  Calls Tryz.prog 31 #[.pointer (some ⟨b1,0,none⟩),.pointer (some ⟨b2,0,none⟩),.pointer (some ⟨b3,0,none⟩)] w (S1To b3 (openP xs B E) w):=by
 have K25:=opened_any ao cap xs B E T w hT h (by omega)
 have p0:=(h1.cell 0).trans (show _=some (.slice ao xs.length cap) from rfl)
 have q0:=(h2.cell 0).trans (show _=some (.int .i64 B) from rfl)
 have q1:=(h2.cell 1).trans (show _=some (.int .i64 E) from rfl)
 have q2:=(h2.cell 2).trans (show _=some (.int .i64 T) from rfl)
 have H3:=Lib.hid h3
 have hb3:=h3.lt
 clear h1 h2 h3 h hT
 cases ho:openP xs B E with
 | error er=>
  rw [ho] at K25
  have K25:Hid (Calls Tryz.prog 25 #[.slice ao xs.length cap,.agg #[.int .i64 B,.int .i64 E,.int .i64 T]] w fun en w'=>Below w.heap.size w w'∧en=zpan er):=Lib.hid K25
  clear ho
  go_enter Tryz.func31,Tryz.ntmps31
  go_wp2_with (go_at_call 25;refine K25.out.mono ?_;rintro en w5 ⟨hb5,rfl⟩)
  exact ⟨rfl,Touch.of_below hb5,rfl,H3.out.below hb5⟩
 | ok x=>
  obtain ⟨l,f,e⟩:=x
  rw [ho] at K25
  have K25:Hid (Calls Tryz.prog 25 #[.slice ao xs.length cap,.agg #[.int .i64 B,.int .i64 E,.int .i64 T]] w fun en w'=>Below w.heap.size w w'∧∃ (rms:List Rm) (a1:Option Addr) (c1:Nat),rms.map (·.r)=l∧en = .returned (.agg #[.slice ao xs.length cap,.int .i64 (f:Nat),.int .i64 (e:Nat),.slice a1 rms.length c1])∧Rms w' w.heap.size (.slice a1 rms.length c1) rms):=Lib.hid K25
  have hfield:∀ (a b c d:Value) (W:World),(Instr.field 61 (.agg #[a,b,c,d]) 3).run Tryz.prog W = .ok d W:=fun _ _ _ _ _=>by kernel_rfl
  clear ho
  go_enter Tryz.func31,Tryz.ntmps31
  go_wp2_with (go_at_call 25;refine K25.out.mono ?_;rintro en w2 ⟨hb2,rms,a1,c1,hl,rfl,hrm⟩;have hb:=H3.out.below hb2;have t0:=(hb.cell 0).trans (show _=some (.slice none 0 0) from rfl);have t1:=hb.free 0;have HB:=Lib.hid hb;have HB2:=Lib.hid hb2;have HL:=Lib.hid hl;have HR:=Lib.hid hrm;clear hb hb2 hl hrm)
  go_end0
  have htf:Touch (fun k=>k=b3) w2 (w2.setCell ⟨b3,0,none⟩ (.slice a1 rms.length c1)):=(Touch.refl (fun k=>k=b3) w2).setCell ⟨b3,0,none⟩ (.slice a1 rms.length c1) (.inl rfl)
  exact ⟨(Touch.of_below HB2.out:Touch (fun k=>k=b3) w w2).setCell _ _ (.inl rfl),rms,a1,c1,rfl,HB.out.setCell 0 _,HL.out,HR.out.touch htf (fun k hk=>by omega)⟩
theorem zcatch_panicking (q:Nat) (er:Nat) (w:World) (x:Int) (hc:w.cell? ⟨q,0,none⟩=some (.int .i64 x)) (hz:w.frozen? ⟨q,0,none⟩=false) :
  CallsD Tryz.prog 42 #[.pointer (some ⟨q,0,none⟩)] (.panicking [{ v := .iface 85 (.int .i64 (er:Nat)),recovered:=false }]) w fun e u' w'=>
   e = .returned (.tuple #[])∧u' = .panicking [{ v := .iface 85 (.int .i64 (er:Nat)),recovered:=true }]∧w'=w.setCell ⟨q,0,none⟩ (.int .i64 (er:Nat)):=by
 refine callsD_of_wpS Tryz.func42 rfl fun c₀ cs hu=>?_
 apply wpS_seq
 apply wpS_region
 simp [wpOpsS,go_sem,recoverD,hu,Tryz.ntmps42,Exit.thenS]
 refine wpS_of_wp ?_
 have hta:∀ W:World,(Instr.typeAssert (.iface 85 (.int .i64 (er:Nat))) 20 85 true).run Tryz.prog W = .ok (.tuple #[.int .i64 (er:Nat),.bool true]) W:=fun _=>by
  kernel_rfl
 simp only [Array.replicate,List.replicate,List.setIfInBounds_toArray,List.append_toArray]
 go_wp2
 simp [bodyPostS,results,Tryz.results42]
theorem zcatch_idle (q:Nat) (w:World) :
  CallsD Tryz.prog 42 #[.pointer (some ⟨q,0,none⟩)] .returning w fun e u' w'=>
   e = .returned (.tuple #[])∧u' = .returning∧w'=w:=by
 refine callsD_of_wpS Tryz.func42 rfl fun c₀ cs hu=>?_
 apply wpS_seq
 apply wpS_region
 simp [wpOpsS,go_sem,recoverD,hu,Tryz.ntmps42,Exit.thenS]
 refine wpS_of_wp ?_
 have hta:∀ W:World,(Instr.typeAssert .nilIface 20 85 true).run Tryz.prog W = .ok (.tuple #[.int .i64 0,.bool false]) W:=fun _=>by
  kernel_rfl
 simp only [Array.replicate,List.replicate,List.setIfInBounds_toArray,List.append_toArray]
 go_wp2
 simp [bodyPostS,results,Tryz.results42]
 obtain ⟨f,t,td,df,md,kd,rd⟩:=c₀
 simp at hu
 simp [hu]
def Caught (q:Nat) (Q:Nat→World→Prop) (e:Ending) (w':World):Prop:=
 Blk w' q 30 #[.int .i64 0]∧((e = .returned (.tuple #[])∧Q 0 w')∨∃ er,e=zpan er∧Q er w')
set_option maxHeartbeats 1600000 in
theorem caught_any (g:Nat) (cb:Array Value) (w:World) (Q:Nat→World→Prop) (eg:∀ args w,(callFunc g args).run Tryz.prog w = .ok (.enter g args) w)
  (hk:Calls Tryz.prog g cb (w.alloc (.cells #[.int .i64 0] 30)) (Caught w.heap.size Q)) :
  Calls Tryz.prog 23 #[.func (.func g) #[] cb] w fun e w'=>∃ er w1,e = .returned (.int .i64 (er:Nat))∧Q er w1∧w'=w1.setCell ⟨w.heap.size,0,none⟩ (.int .i64 (er:Nat)):=by
 have hmf:∀ (fn:Fn) (first cap:Array Value) (w:World),(Instr.makeFunc fn first cap).run Tryz.prog w = .ok (.func fn first cap) w:=fun _ _ _ _=>rfl
 have K:=Lib.hid hk
 clear hk
 go_enter_defers Tryz.func23,Tryz.ntmps23
 go_wp2_with fail
 refine K.out.mono ?_
 rintro e w1 ⟨hbk,⟨rfl,hq⟩ | ⟨er,rfl,hq⟩⟩
 ·have e0:=(hbk.cell 0).trans (show _=some (.int .i64 0) from rfl)
  have f0:=hbk.free 0
  have HQ:=Lib.hid hq
  clear hbk hq
  go_wp2
  refine leaves_cons (f:=42) (args := #[.pointer (some ⟨w.heap.size,0,none⟩)]) (by simp) (by simp [go_sem]) ?_
  refine (zcatch_idle w.heap.size _).mono ?_
  rintro e u' w'' ⟨rfl,rfl,rfl⟩
  have hc:(w1.setCell ⟨w.heap.size,0,none⟩ (.int .i64 0)).cell? ⟨w.heap.size,0,none⟩=some (.int .i64 0):=World.cell?_setCell_same _ _ _ e0
  simp only [Leaves,settle,results,Tryz.results23,go_sem]
  simp [hc]
  exact ⟨0,rfl,w1,HQ.out,rfl⟩
 ·have e0:=(hbk.cell 0).trans (show _=some (.int .i64 0) from rfl)
  have f0:=hbk.free 0
  have HQ:=Lib.hid hq
  clear hbk hq
  go_wp2
  refine leaves_cons (f:=42) (args := #[.pointer (some ⟨w.heap.size,0,none⟩)]) (by simp) (by simp [go_sem]) ?_
  refine (zcatch_panicking w.heap.size er _ 0 e0 f0).mono ?_
  rintro e u' w'' ⟨rfl,rfl,rfl⟩
  have hc:(w1.setCell ⟨w.heap.size,0,none⟩ (.int .i64 (er:Nat))).cell? ⟨w.heap.size,0,none⟩=some (.int .i64 (er:Nat)):=World.cell?_setCell_same _ _ _ e0
  simp [Leaves,settle,results,Tryz.results23,go_sem,hc]
  exact ⟨er,rfl,w1,HQ.out,rfl⟩
def RdTo (xs:List Nat) (tr:Except Nat (List Rw × Nat × List (List Nat))) (w:World) (en:Ending) (w':World):Prop:=
 Below w.heap.size w w'∧match tr with
  | .error er=>en = .returned (.tuple #[.slice none 0 0,.int .i64 (er:Nat)])
  | .ok (l,f,ds)=>∃ (ems:List Em) (a:Option Addr) (c:Nat),en = .returned (.tuple #[.slice a l.length c,.int .i64 0])∧Ems w' w.heap.size (.slice a l.length c) ems∧ems.map tpE=l.map (tpR (xs.take f))∧ems.map (·.d)=ds
def QRd (xs:List Nat) (b3:Nat) (tr:Except Nat (List Rw × Nat × List (List Nat))) (W1:World) (er:Nat) (W:World):Prop:=
 Touch (fun k=>k=b3) W1 W∧match tr with
  | .error x=>er=x∧Blk W b3 29 #[.slice none 0 0]
  | .ok (l,f,ds)=>er=0∧∃ (ems:List Em) (a:Option Addr) (c:Nat),Blk W b3 29 #[.slice a l.length c]∧Ems W W1.heap.size (.slice a l.length c) ems∧ems.map tpE=l.map (tpR (xs.take f))∧ems.map (·.d)=ds
theorem enter24 (args:Array Value) (w:World):(callFunc 24 args).run Tryz.prog w = .ok (.enter 24 args) w:=by
 kernel_rfl
theorem enter31 (args:Array Value) (w:World):(callFunc 31 args).run Tryz.prog w = .ok (.enter 31 args) w:=by
 kernel_rfl
set_option maxHeartbeats 1600000 in
theorem read_any (ao:Option Addr) (cap:Nat) (xs:List Nat) (B E T:Int) (w:World) (hT:TZ w) (h:Cu.Sl w ao cap xs) (hm:xs.length≤100000) (hTm:T≤2000000) :
  Calls Tryz.prog 12 #[.slice ao xs.length cap,.agg #[.int .i64 B,.int .i64 E,.int .i64 T]] w (RdTo xs (readP xs B E T) w):=by
 obtain ⟨RES,hRES⟩:∃ RES,RES=readP xs B E T:=⟨_,rfl⟩
 obtain ⟨w3,hw3⟩:∃ w3,w3=((w.alloc (.cells #[.slice ao xs.length cap] 22)).alloc (.cells #[.int .i64 B,.int .i64 E,.int .i64 T] 24)).alloc (.cells #[.slice none 0 0] 29):=⟨_,rfl⟩
 have hz3:w3.heap.size=w.heap.size+3:=by rw [hw3,alloc_size,alloc_size,alloc_size]
 have hb3:Below w.heap.size w w3:=by rw [hw3];exact (((Below.refl _ w).alloc (Nat.le_refl _) _).alloc (by simp) _).alloc (by simp;omega) _
 have k3:Blk w3 (w.heap.size+2) 29 #[.slice none 0 0]:=by rw [hw3];exact Blk.made2 _ _ _ _ _
 have k2:Blk w3 (w.heap.size+1) 24 #[.int .i64 B,.int .i64 E,.int .i64 T]:=by rw [hw3];exact (Blk.made1 _ _ _ _).below ((Below.refl _ _).alloc (Nat.le_refl _) _)
 have k1:Blk w3 w.heap.size 22 #[.slice ao xs.length cap]:=by
  rw [hw3]
  exact ((Blk.made w 22 _).below ((Below.refl _ _).alloc (Nat.le_refl _) _)).below ((Below.refl _ _).alloc (Nat.le_refl _) _)
 have hbe:Below w3.heap.size w3 (w3.alloc (.cells #[.int .i64 0] 30)):=(Below.refl _ w3).alloc (Nat.le_refl _) _
 have hB1:Below w.heap.size w (w3.alloc (.cells #[.int .i64 0] 30)):=hb3.trans (hbe.mono hb3.size)
 have K24:=read1_any ao cap xs B E T w.heap.size (w.heap.size+1) (w.heap.size+2) (w3.alloc (.cells #[.int .i64 0] 30)) (hT.grow hB1) (h.below hB1) hm hTm (k1.below hbe) (k2.below hbe) (k3.below hbe)
 rw [←hRES] at K24 ⊢
 have hE0:Blk (w3.alloc (.cells #[.int .i64 0] 30)) w3.heap.size 30 #[.int .i64 0]:=Blk.made _ _ _
 have K23:=caught_any 24 #[.pointer (some ⟨w.heap.size,0,none⟩),.pointer (some ⟨w.heap.size+1,0,none⟩),.pointer (some ⟨w.heap.size+2,0,none⟩)] w3 (QRd xs (w.heap.size+2) RES (w3.alloc (.cells #[.int .i64 0] 30))) enter24 (K24.mono fun en w' hh=>by
  obtain ⟨ht,hh⟩:=hh
  refine ⟨hE0.touch ht (by omega),?_⟩
  cases RES with
  | error er=>exact .inr ⟨er,hh.1,ht,rfl,hh.2⟩
  | ok x=>
   obtain ⟨l,f,ds⟩:=x
   obtain ⟨ems,a,c,e1,e2,e3,e4,e5⟩:=hh
   exact .inl ⟨e1,ht,rfl,ems,a,c,e2,e3,e4,e5⟩)
 have K23:=Lib.hid K23
 have HB1:=Lib.hid hB1
 have hsz1:(w3.alloc (.cells #[.int .i64 0] 30)).heap.size=w3.heap.size+1:=alloc_size _ _
 have HZ:=Lib.hid hz3
 obtain ⟨W1,hW1⟩:∃ W1,W1=w3.alloc (.cells #[.int .i64 0] 30):=⟨_,rfl⟩
 rw [←hW1] at K23 HB1 hsz1
 clear hT h hRES hb3 hz3 k3 k2 k1 hbe hB1 K24 hE0 hW1
 have hcont:∀ (er:Nat) (w4:World),QRd xs (w.heap.size+2) RES W1 er w4→∃ v:Value,Blk w4 (w.heap.size+2) 29 #[v]∧RdTo xs RES w (.returned (.tuple #[v,.int .i64 (er:Nat)])) (w4.setCell ⟨w3.heap.size,0,none⟩ (.int .i64 (er:Nat))):=by
  rintro er w4 ⟨ht,hq⟩
  have hb4:Below w.heap.size W1 w4:=ht.below (by have:=HZ.out;omega) (fun k hk=>by omega)
  have hse:Touch (fun k=>k=w3.heap.size) w4 (w4.setCell ⟨w3.heap.size,0,none⟩ (.int .i64 (er:Nat))):=(Touch.refl (fun k=>k=w3.heap.size) w4).setCell _ _ (.inl rfl)
  have hbl:Below w.heap.size w (w4.setCell ⟨w3.heap.size,0,none⟩ (.int .i64 (er:Nat))):=(HB1.out.trans hb4).trans (hse.below (by have:=ht.size;have:=HZ.out;omega) (fun k hk=>by have:=HZ.out;omega))
  cases RES with
  | error x=>
   obtain ⟨rfl,hk⟩:=hq
   exact ⟨_,hk,hbl,rfl⟩
  | ok x=>
   obtain ⟨l,f,ds⟩:=x
   obtain ⟨rfl,ems,a,c,hk,hem,htp,hds⟩:=hq
   have h6:=hem.touch hse (fun k hk=>by omega)
   have hbz:w.heap.size≤W1.heap.size:=by have:=HZ.out;omega
   exact ⟨_,hk,hbl,ems,a,c,rfl,⟨own_base h6.own hbz,h6.sl,fun x hx ad had=>Nat.le_trans hbz (h6.low x hx ad had),h6.apart⟩,htp,hds⟩
 have HC:=Lib.hid hcont
 clear hcont
 go_enter Tryz.func12,Tryz.ntmps12
 go_upto_region 2 with fail
 rw [←hw3]
 clear hw3
 go_wp2_with (go_at_call 23;refine K23.out.mono ?_;rintro en w5 ⟨er,w4,rfl,hq,rfl⟩;obtain ⟨v,hv,hfin⟩:=HC.out er w4 hq;have hv2:=(hv.other 0 (.int .i64 (er:Nat)) (show w3.heap.size≠w.heap.size+2 from by have:=HZ.out;omega)).cell 0;have hv2:(w4.setCell ⟨w3.heap.size,0,none⟩ (.int .i64 (er:Nat))).cell? ⟨w.heap.size+1+1,0,none⟩=some v:=hv2.trans rfl;have HFIN:=Lib.hid hfin;clear hv hfin hq)
 go_ret2
 exact HFIN.out
def RwTo (tr:Except Nat (List Rw × Nat × Nat)) (w:World) (en:Ending) (w':World):Prop:=
 Below w.heap.size w w'∧match tr with
  | .error er=>en = .returned (.tuple #[.slice none 0 0,.int .i64 (er:Nat)])
  | .ok (l,_,_)=>∃ (rms:List Rm) (a:Option Addr) (c:Nat),en = .returned (.tuple #[.slice a rms.length c,.int .i64 0])∧rms.map (·.r)=l∧Rms w' w.heap.size (.slice a rms.length c) rms
def QRw (b3:Nat) (tr:Except Nat (List Rw × Nat × Nat)) (W1:World) (er:Nat) (W:World):Prop:=
 Touch (fun k=>k=b3) W1 W∧match tr with
  | .error x=>er=x∧Blk W b3 42 #[.slice none 0 0]
  | .ok (l,_,_)=>er=0∧∃ (rms:List Rm) (a:Option Addr) (c:Nat),Blk W b3 42 #[.slice a rms.length c]∧rms.map (·.r)=l∧Rms W W1.heap.size (.slice a rms.length c) rms
set_option maxHeartbeats 1600000 in
theorem rows_any (ao:Option Addr) (cap:Nat) (xs:List Nat) (B E T:Int) (w:World) (hT:TZ w) (h:Cu.Sl w ao cap xs) (hm:xs.length≤100000) :
  Calls Tryz.prog 15 #[.slice ao xs.length cap,.agg #[.int .i64 B,.int .i64 E,.int .i64 T]] w (RwTo (openP xs B E) w):=by
 obtain ⟨RES,hRES⟩:∃ RES,RES=openP xs B E:=⟨_,rfl⟩
 obtain ⟨w3,hw3⟩:∃ w3,w3=((w.alloc (.cells #[.slice ao xs.length cap] 22)).alloc (.cells #[.int .i64 B,.int .i64 E,.int .i64 T] 24)).alloc (.cells #[.slice none 0 0] 42):=⟨_,rfl⟩
 have hz3:w3.heap.size=w.heap.size+3:=by rw [hw3,alloc_size,alloc_size,alloc_size]
 have hb3:Below w.heap.size w w3:=by rw [hw3];exact (((Below.refl _ w).alloc (Nat.le_refl _) _).alloc (by simp) _).alloc (by simp;omega) _
 have k3:Blk w3 (w.heap.size+2) 42 #[.slice none 0 0]:=by rw [hw3];exact Blk.made2 _ _ _ _ _
 have k2:Blk w3 (w.heap.size+1) 24 #[.int .i64 B,.int .i64 E,.int .i64 T]:=by rw [hw3];exact (Blk.made1 _ _ _ _).below ((Below.refl _ _).alloc (Nat.le_refl _) _)
 have k1:Blk w3 w.heap.size 22 #[.slice ao xs.length cap]:=by
  rw [hw3]
  exact ((Blk.made w 22 _).below ((Below.refl _ _).alloc (Nat.le_refl _) _)).below ((Below.refl _ _).alloc (Nat.le_refl _) _)
 have hbe:Below w3.heap.size w3 (w3.alloc (.cells #[.int .i64 0] 30)):=(Below.refl _ w3).alloc (Nat.le_refl _) _
 have hB1:Below w.heap.size w (w3.alloc (.cells #[.int .i64 0] 30)):=hb3.trans (hbe.mono hb3.size)
 have K31:=rows1_any ao cap xs B E T w.heap.size (w.heap.size+1) (w.heap.size+2) (w3.alloc (.cells #[.int .i64 0] 30)) (hT.grow hB1) (h.below hB1) hm (k1.below hbe) (k2.below hbe) (k3.below hbe)
 rw [←hRES] at K31 ⊢
 have hE0:Blk (w3.alloc (.cells #[.int .i64 0] 30)) w3.heap.size 30 #[.int .i64 0]:=Blk.made _ _ _
 have K23:=caught_any 31 #[.pointer (some ⟨w.heap.size,0,none⟩),.pointer (some ⟨w.heap.size+1,0,none⟩),.pointer (some ⟨w.heap.size+2,0,none⟩)] w3 (QRw (w.heap.size+2) RES (w3.alloc (.cells #[.int .i64 0] 30))) enter31 (K31.mono fun en w' hh=>by
  obtain ⟨ht,hh⟩:=hh
  refine ⟨hE0.touch ht (by omega),?_⟩
  cases RES with
  | error er=>exact .inr ⟨er,hh.1,ht,rfl,hh.2⟩
  | ok x=>
   obtain ⟨l,f,e⟩:=x
   obtain ⟨rms,a,c,e1,e2,e3,e4⟩:=hh
   exact .inl ⟨e1,ht,rfl,rms,a,c,e2,e3,e4⟩)
 have K23:=Lib.hid K23
 have HB1:=Lib.hid hB1
 have hsz1:(w3.alloc (.cells #[.int .i64 0] 30)).heap.size=w3.heap.size+1:=alloc_size _ _
 have HZ:=Lib.hid hz3
 obtain ⟨W1,hW1⟩:∃ W1,W1=w3.alloc (.cells #[.int .i64 0] 30):=⟨_,rfl⟩
 rw [←hW1] at K23 HB1 hsz1
 clear hT h hRES hb3 hz3 k3 k2 k1 hbe hB1 K31 hE0 hW1
 have hcont:∀ (er:Nat) (w4:World),QRw (w.heap.size+2) RES W1 er w4→∃ v:Value,Blk w4 (w.heap.size+2) 42 #[v]∧RwTo RES w (.returned (.tuple #[v,.int .i64 (er:Nat)])) (w4.setCell ⟨w3.heap.size,0,none⟩ (.int .i64 (er:Nat))):=by
  rintro er w4 ⟨ht,hq⟩
  have hb4:Below w.heap.size W1 w4:=ht.below (by have:=HZ.out;omega) (fun k hk=>by omega)
  have hse:Touch (fun k=>k=w3.heap.size) w4 (w4.setCell ⟨w3.heap.size,0,none⟩ (.int .i64 (er:Nat))):=(Touch.refl (fun k=>k=w3.heap.size) w4).setCell _ _ (.inl rfl)
  have hbl:Below w.heap.size w (w4.setCell ⟨w3.heap.size,0,none⟩ (.int .i64 (er:Nat))):=(HB1.out.trans hb4).trans (hse.below (by have:=ht.size;have:=HZ.out;omega) (fun k hk=>by have:=HZ.out;omega))
  cases RES with
  | error x=>
   obtain ⟨rfl,hk⟩:=hq
   exact ⟨_,hk,hbl,rfl⟩
  | ok x=>
   obtain ⟨l,f,e⟩:=x
   obtain ⟨rfl,rms,a,c,hk,hl,hem⟩:=hq
   have h6:=hem.touch hse (fun k hk=>by omega)
   have hbz:w.heap.size≤W1.heap.size:=by have:=HZ.out;omega
   exact ⟨_,hk,hbl,rms,a,c,rfl,hl,h6.base hbz⟩
 have HC:=Lib.hid hcont
 clear hcont
 go_enter Tryz.func15,Tryz.ntmps15
 go_upto_region 2 with fail
 rw [←hw3]
 clear hw3
 go_wp2_with (go_at_call 23;refine K23.out.mono ?_;rintro en w5 ⟨er,w4,rfl,hq,rfl⟩;obtain ⟨v,hv,hfin⟩:=HC.out er w4 hq;have hv2:=(hv.other 0 (.int .i64 (er:Nat)) (show w3.heap.size≠w.heap.size+2 from by have:=HZ.out;omega)).cell 0;have hv2:(w4.setCell ⟨w3.heap.size,0,none⟩ (.int .i64 (er:Nat))).cell? ⟨w.heap.size+1+1,0,none⟩=some v:=hv2.trans rfl;have HFIN:=Lib.hid hfin;clear hv hfin hq)
 go_ret2
 exact HFIN.out
end
end Go.Proofs.YthbbpooobaahiaaGreatDoor.Zz
namespace Go.Proofs.YthbbpooobaahiaaGreatDoor
set_option maxRecDepth 100000
section
open Go.ChangeShapes Go.WideShapes Go.ChangeAt Go.RowKit
structure Twb (B:Nat) (w wr:World) (v1:Value) (xs1:List Nat) (v2:Value) (xs2:List Nat):Prop where
 own1:wr.ownsRow B 5 1 v1 xs1.length (u8s xs1)
 own2:wr.ownsRow B 5 1 v2 xs2.length (u8s xs2)
 ne:∀ k,v1.ownBlock=some k→v2.ownBlock≠some k
 below:Below B w wr
 size:B≤wr.heap.size
theorem Twb.app1 {B:Nat} {w wr w':World} {v1 v2 v':Value} {xs1 xs2 ys:List Nat} (h:Twb B w wr v1 xs1 v2 xs2) (k:Apd wr B v1 ys v' w'):Twb B w w' v' ys v2 xs2:=by
 refine ⟨k.own,ownsRow_touch h.own2 k.touch fun i hi hs=>h.ne i hs hi,fun i hi h2=>?_,h.below.trans (k.touch.below h.size fun i hi=>(h.own1.lt i hi).1),Nat.le_trans h.size k.touch.size⟩
 rcases k.row i hi with h1 | h1
 ·exact h.ne i h1 h2
 ·have:=(h.own2.lt i h2).2
  omega
theorem Twb.app2 {B:Nat} {w wr w':World} {v1 v2 v':Value} {xs1 xs2 ys:List Nat} (h:Twb B w wr v1 xs1 v2 xs2) (k:Apd wr B v2 ys v' w'):Twb B w w' v1 xs1 v' ys:=by
 refine ⟨ownsRow_touch h.own1 k.touch fun i hi hs=>h.ne i hi hs,k.own,fun i hi h2=>?_,h.below.trans (k.touch.below h.size fun i hi=>(h.own2.lt i hi).1),Nat.le_trans h.size k.touch.size⟩
 rcases k.row i h2 with h1 | h1
 ·exact h.ne i hi h1
 ·have:=(h.own1.lt i hi).2
  omega
theorem Twb.grow {B:Nat} {w wr w':World} {v1 v2:Value} {xs1 xs2:List Nat} (h:Twb B w wr v1 xs1 v2 xs2) (hb:Below wr.heap.size wr w'):Twb B w w' v1 xs1 v2 xs2:=
 ⟨ownsRow_touch h.own1 (Touch.of_below hb:Touch (fun _=>False) wr w') fun _ _ h=>h,ownsRow_touch h.own2 (Touch.of_below hb:Touch (fun _=>False) wr w') fun _ _ h=>h,h.ne,h.below.trans (hb.mono h.size),Nat.le_trans h.size hb.size⟩
theorem Twb.start (w:World):Twb w.heap.size w ((w.alloc (.cells #[] 5)).alloc (.cells #[] 5)) (.slice (some ⟨w.heap.size,0,none⟩) 0 0) [] (.slice (some ⟨w.heap.size+1,0,none⟩) 0 0) []:=by
 have hs:(w.alloc (.cells #[] 5)).heap.size=w.heap.size+1:=Array.size_push _
 have h1:=own_lit0 w
 have h2:=own_lit0 (w.alloc (.cells #[] 5))
 rw [hs] at h2
 refine ⟨h1.alloc _,own_base h2 (Nat.le_succ _),fun k hk e=>?_,((Below.refl _ w).alloc (Nat.le_refl _) _).alloc (by rw [hs];omega) _,?_⟩
 ·simp only [Value.ownBlock,Option.some.injEq] at hk e
  omega
 ·have:=Array.size_push (xs:=(w.alloc (.cells #[] 5)).heap) (Obj.cells #[] 5)
  show w.heap.size≤((w.alloc (.cells #[] 5)).heap.push (Obj.cells #[] 5)).size
  rw [this,hs];omega
end
end Go.Proofs.YthbbpooobaahiaaGreatDoor
namespace Go.Proofs.YthbbpooobaahiaaGreatDoor.Zz
set_option maxRecDepth 100000
theorem uLead_cases (a:Nat) (h0:128≤a) (h1:a<256) :
  (uLead a=(0,0,0)∧¬(Lib.firstT a%8=2)∧¬(Lib.firstT a%8=3)∧¬(Lib.firstT a%8=4)) ∨
  (194≤a∧a≤223∧uLead a=(2,a-192,128)∧Lib.firstT a%8=2∧Lib.accLo (Lib.firstT a/16)=128∧Lib.accHi (Lib.firstT a/16)=191) ∨
  (224≤a∧a≤239∧uLead a=(3,a-224,2048)∧Lib.firstT a%8=3∧Lib.accLo (Lib.firstT a/16)=(if a=224 then 160 else 128)∧Lib.accHi (Lib.firstT a/16)=(if a=237 then 159 else 191)) ∨
  (240≤a∧a≤244∧uLead a=(4,a-240,65536)∧Lib.firstT a%8=4∧Lib.accLo (Lib.firstT a/16)=(if a=240 then 144 else 128)∧Lib.accHi (Lib.firstT a/16)=(if a=244 then 143 else 191)):=by
 have:∀ a:Fin 256,128≤a.val→(uLead a.val=(0,0,0)∧¬(Lib.firstT a.val%8=2)∧¬(Lib.firstT a.val%8=3)∧¬(Lib.firstT a.val%8=4)) ∨
  (194≤a.val∧a.val≤223∧uLead a.val=(2,a.val-192,128)∧Lib.firstT a.val%8=2∧Lib.accLo (Lib.firstT a.val/16)=128∧Lib.accHi (Lib.firstT a.val/16)=191) ∨
  (224≤a.val∧a.val≤239∧uLead a.val=(3,a.val-224,2048)∧Lib.firstT a.val%8=3∧Lib.accLo (Lib.firstT a.val/16)=(if a.val=224 then 160 else 128)∧Lib.accHi (Lib.firstT a.val/16)=(if a.val=237 then 159 else 191)) ∨
  (240≤a.val∧a.val≤244∧uLead a.val=(4,a.val-240,65536)∧Lib.firstT a.val%8=4∧Lib.accLo (Lib.firstT a.val/16)=(if a.val=240 then 144 else 128)∧Lib.accHi (Lib.firstT a.val/16)=(if a.val=244 then 143 else 191)):=by decide +kernel
 exact this ⟨a,h1⟩ h0
theorem check2 (n b1 b2 b3 lo hi:Nat):Lib.checkN n b1 b2 b3 2 lo hi=if n<2∨b1<lo∨hi<b1 then none else some 2:=rfl
theorem check3 (n b1 b2 b3 lo hi:Nat):Lib.checkN n b1 b2 b3 3 lo hi=if n<3∨b1<lo∨hi<b1∨b2<128∨191<b2 then none else some 3:=rfl
theorem check4 (n b1 b2 b3 lo hi:Nat):Lib.checkN n b1 b2 b3 4 lo hi=if n<4∨b1<lo∨hi<b1∨b2<128∨191<b2∨b3<128∨191<b3 then none else some 4:=rfl
theorem uLen_check (L:List Nat) (hb:∀ x∈L,x<256) (h0:128≤L.getD 0 0) :
  uLen L=(Lib.checkN L.length (L.getD 1 0) (L.getD 2 0) (L.getD 3 0) (Lib.firstT (L.getD 0 0)%8) (Lib.accLo (Lib.firstT (L.getD 0 0)/16)) (Lib.accHi (Lib.firstT (L.getD 0 0)/16))).getD 0:=by
 cases L with
 | nil=>simp at h0
 | cons a t=>
  have ha:a<256:=hb a (List.mem_cons_self)
  simp only [List.getD_cons_zero] at h0 ⊢
  unfold uLen
  simp only [List.getD_cons_zero,List.drop_succ_cons,List.drop_zero,List.getD_cons_succ,List.length_cons]
  rw [if_neg (by omega)]
  rcases uLead_cases a h0 ha with ⟨e,e2,e3,e4⟩ | ⟨g1,g2,e,e2,e3,e4⟩ | ⟨g1,g2,e,e2,e3,e4⟩ | ⟨g1,g2,e,e2,e3,e4⟩
  ·rw [e,if_pos (.inl rfl),Lib.checkN,if_neg e2,if_neg e3,if_neg e4];rfl
  ·rw [e,e2,e3,e4,check2]
   match t with
   | []=>simp
   | b::t=>
    have h1:b<256:=hb b (by simp)
    simp only [List.getD_cons_zero,List.length_cons,List.take_succ_cons,List.take_zero,uSum,Nat.add_one_sub_one]
    by_cases c1:b<128∨191<b
    ·simp [c1]
    ·rw [if_neg (by omega)]
     simp only [if_neg c1]
     rw [if_neg (by omega),if_neg (by omega)]
     rfl
  ·rw [e,e2,e3,e4,check3]
   match t with
   | []=>simp
   | [b]=>simp
   | b::c::t=>
    have h1:b<256:=hb b (by simp)
    have h2:c<256:=hb c (by simp)
    simp only [List.getD_cons_zero,List.getD_cons_succ,List.length_cons,List.take_succ_cons,List.take_zero,uSum,Nat.add_one_sub_one]
    rw [if_neg (by omega)]
    by_cases c1:b<128∨191<b
    ·simp only [if_pos c1]
     rw [if_pos (by split <;> split <;> omega)];rfl
    ·simp only [if_neg c1]
     by_cases c2:c<128∨191<c
     ·simp only [if_pos c2]
      rw [if_pos (by omega)];rfl
     ·simp only [if_neg c2]
      by_cases c3:(a-224)*64+b-128<32∨(864≤(a-224)*64+b-128∧(a-224)*64+b-128≤895)
      ·rw [if_pos (by omega),if_pos (by split <;> split <;> omega)];rfl
      ·rw [if_neg (by omega),if_neg (by split <;> split <;> omega)];rfl
  ·rw [e,e2,e3,e4,check4]
   match t with
   | []=>simp
   | [b]=>simp
   | [b,c]=>simp
   | b::c::d::t=>
    have h1:b<256:=hb b (by simp)
    have h2:c<256:=hb c (by simp)
    have h3:d<256:=hb d (by simp)
    simp only [List.getD_cons_zero,List.getD_cons_succ,List.length_cons,List.take_succ_cons,List.take_zero,uSum,Nat.add_one_sub_one]
    rw [if_neg (by omega)]
    by_cases c1:b<128∨191<b
    ·simp only [if_pos c1]
     rw [if_pos (by split <;> split <;> omega)];rfl
    ·simp only [if_neg c1]
     by_cases c2:c<128∨191<c
     ·simp only [if_pos c2]
      rw [if_pos (by omega)];rfl
     ·simp only [if_neg c2]
      by_cases c3:d<128∨191<d
      ·simp only [if_pos c3]
       rw [if_pos (by omega)];rfl
      ·simp only [if_neg c3]
       by_cases c4:(a-240)*64+b-128<16∨272≤(a-240)*64+b-128
       ·rw [if_pos (by omega),if_pos (by split <;> split <;> omega)];rfl
       ·rw [if_neg (by omega),if_neg (by split <;> split <;> omega)];rfl
theorem uLen_le (L:List Nat) (hne:L≠[]):uLen L≤L.length:=by
 have hl:=List.length_pos_iff.2 hne
 unfold uLen
 split
 ·omega
 ·split
  ·omega
  ·split
   ·omega
   ·split <;> omega
theorem valid_step (l:List UInt8) (hne:l≠[]):Lib.validD l=if uLen (l.map (·.toNat))=0 then false else Lib.validD (l.drop (uLen (l.map (·.toNat)))):=by
 have hg:∀ i,(l.map (·.toNat)).getD i 0=(l.getD i 0).toNat:=fun i=>by
  simp only [List.getD_eq_getElem?_getD,List.getElem?_map]
  cases l[i]? <;> rfl
 by_cases h0:128≤(l.getD 0 0).toNat
 ·have hu:=uLen_check (l.map (·.toNat)) (fun x hx=>by obtain ⟨c,_,rfl⟩:=List.mem_map.1 hx;exact c.toNat_lt) (by rw [hg];exact h0)
  rw [List.length_map,hg,hg,hg,hg] at hu
  rw [Lib.validD_lead l hne h0]
  cases hc:Lib.checkN l.length (l.getD 1 0).toNat (l.getD 2 0).toNat (l.getD 3 0).toNat (Lib.firstT (l.getD 0 0).toNat%8) (Lib.accLo (Lib.firstT (l.getD 0 0).toNat/16)) (Lib.accHi (Lib.firstT (l.getD 0 0).toNat/16)) with
  | none=>rw [hc] at hu;rw [hu];simp
  | some k=>
   rw [hc] at hu
   have hk:k≠0:=by
    rintro rfl
    unfold Lib.checkN at hc
    repeat' split at hc
    all_goals cases hc
   rw [hu];simp [hk]
 ·cases l with
  | nil=>exact absurd rfl hne
  | cons b t=>
   have hb:b.toNat<128:=by simpa using h0
   rw [Lib.validD_cons b t hb]
   have:uLen ((b::t).map (·.toNat))=1:=by unfold uLen;rw [if_pos (by simpa using hb)]
   rw [this];rfl
end Go.Proofs.YthbbpooobaahiaaGreatDoor.Zz
