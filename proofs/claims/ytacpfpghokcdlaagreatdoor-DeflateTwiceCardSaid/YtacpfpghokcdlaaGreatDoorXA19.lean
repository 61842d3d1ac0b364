/- Part 19. -/
import Derived.Test.YtacpfpghokcdlaaGreatDoorXA18
namespace Go.Proofs.YtacpfpghokcdlaaGreatDoor.V
set_option maxRecDepth 100000
section
open Go.RowKit Go.Maps
theorem Fin.touched {S:Nat→Prop} {w w':World} {B p mb ab pl wt:Nat} {bv:Value} {bs:List Nat} {cop:Bool} {n:Nat} (h:Fin w B p mb ab pl wt bv bs cop n) (ht:Touch S w w') (h1:¬S p) (h2:¬S mb) (h3:¬S ab) (hS:∀ k,S k→B≤k):Fin w' B p mb ab pl wt bv bs cop n:=by
 obtain ⟨t1,t2⟩:=h.touch ht h1 hS
 obtain ⟨D,⟨es,clock,hk,F,hs,hD⟩,hM⟩:=h.map
 obtain ⟨g,hg,hv⟩:=h.ring
 exact ⟨t1,t2,⟨D,⟨es,clock,(ht.block mb (Array.getElem?_eq_some_iff.1 hk).1 h2).trans hk,F,hs,hD⟩,hM⟩,⟨g,hg.touch ht h3,hv⟩,h.far,h.nums⟩
theorem Fin.setCop {w:World} {B p mb ab pl wt:Nat} {bv:Value} {bs:List Nat} {cop:Bool} {n:Nat} (h:Fin w B p mb ab pl wt bv bs cop n) (c:Bool):Fin (w.setCell ⟨p,5,none⟩ (.bool c)) B p mb ab pl wt bv bs c n∧Touch (fun k=>k=p) w (w.setCell ⟨p,5,none⟩ (.bool c)):=by
 have ht:Touch (fun k=>k=p) w (w.setCell ⟨p,5,none⟩ (.bool c)):=(Touch.refl _ w).setCell _ _ (.inl rfl)
 have hf:=h.far
 obtain ⟨D,⟨es,clock,hk,F,hs,hD⟩,hM⟩:=h.map
 obtain ⟨g,hg,hv⟩:=h.ring
 refine ⟨⟨?_,by_far h.by_ hf.1 ht fun k hk=>by omega,⟨D,⟨es,clock,(ht.block mb (Array.getElem?_eq_some_iff.1 hk).1 (by omega)).trans hk,F,hs,hD⟩,hM⟩,⟨g,hg.touch ht (by omega),hv⟩,hf,h.nums⟩,ht⟩
 have:=h.blk.setCell 5 (.bool c)
 simpa using this
structure Tq (w:World) (B p mb ab pl wt:Nat) (v:Value) (bs:List Nat) (n:Nat) (cop:Bool) (r:List M.Tok) (lv:Value) (wr:World):Prop where
 fin:Fin wr B p mb ab pl wt v bs cop n
 own:wr.ownsRow w.heap.size 128 3 lv r.length (tcl r)
 below:Below B w wr
 old:p<w.heap.size∧mb<w.heap.size∧ab<w.heap.size∧B≤w.heap.size
structure Tt (w:World) (B p mb ab pl wt:Nat) (v:Value) (bs:List Nat) (n:Nat) (cop:Bool) (r:List M.Tok) (lv:Value) (bt:Nat) (t:M.Tok) (wr:World):Prop where
 q:Tq w B p mb ab pl wt v bs n cop r lv wr
 x:Blk wr bt 128 #[.int .u8 (t.lit:Nat),.int .i64 (t.len:Nat),.int .i64 (t.dist:Nat)]
 new:w.heap.size≤bt
 nb:∀ k,lv.ownBlock=some k→k≠bt
section
variable {w wr w':World} {B p mb ab pl wt n n':Nat} {v:Value} {bs:List Nat} {cop:Bool} {r:List M.Tok} {lv:Value} {bt:Nat} {t:M.Tok}
theorem Tq.touched {S:Nat→Prop} (h:Tq w B p mb ab pl wt v bs n cop r lv wr) (hf:Fin w' B p mb ab pl wt v bs cop n') (ht:Touch S wr w') (hS:∀ k,S k→B≤k) (ho:∀ k,lv.ownBlock=some k→¬S k):Tq w B p mb ab pl wt v bs n' cop r lv w':=
 ⟨hf,ownsRow_touch h.own ht ho,h.below.trans (ht.below (Nat.le_trans h.old.2.2.2 h.below.size) hS),h.old⟩
theorem Tq.grow (h:Tq w B p mb ab pl wt v bs n cop r lv wr) (hb:Below wr.heap.size wr w'):Tq w B p mb ab pl wt v bs n cop r lv w':=
 h.touched (S:=fun _=>False) (h.fin.grow hb) (Touch.of_below hb) (fun _ e=>e.elim) (fun _ _ e=>e)
theorem Tq.made (h:Tq w B p mb ab pl wt v bs n cop r lv wr) (t:M.Tok):Tt w B p mb ab pl wt v bs n cop r lv wr.heap.size t (wr.alloc (.cells #[.int .u8 (t.lit:Nat),.int .i64 (t.len:Nat),.int .i64 (t.dist:Nat)] 128)):=
 ⟨h.grow ((Below.refl _ _).alloc (Nat.le_refl _) _),Blk.made wr 128 _,h.below.size,fun k hk=>by have:=(h.own.lt k hk).2;omega⟩
theorem Tt.grow (h:Tt w B p mb ab pl wt v bs n cop r lv bt t wr) (hb:Below wr.heap.size wr w'):Tt w B p mb ab pl wt v bs n cop r lv bt t w':=
 ⟨h.q.grow hb,h.x.below hb,h.new,h.nb⟩
theorem Tq.keep (h:Tq w B p mb ab pl wt v bs n cop r lv wr) (hf:Fin w' B p mb ab pl wt v bs cop n') (ht:Touch (Kps mb ab) wr w'):Tq w B p mb ab pl wt v bs n' cop r lv w':=by
 have ho:=h.old
 have hff:=h.fin.far
 exact h.touched hf ht (fun k hk=>by unfold Kps at hk;omega) (fun k hk hs=>by have:=(h.own.lt k hk).1;unfold Kps at hs;omega)
theorem Tt.keep (h:Tt w B p mb ab pl wt v bs n cop r lv bt t wr) (hf:Fin w' B p mb ab pl wt v bs cop n') (ht:Touch (Kps mb ab) wr w'):Tt w B p mb ab pl wt v bs n' cop r lv bt t w':=by
 have ho:=h.q.old
 have hn:=h.new
 exact ⟨h.q.keep hf ht,h.x.touch ht (by unfold Kps;omega),hn,h.nb⟩
theorem Tt.set (h:Tt w B p mb ab pl wt v bs n cop r lv bt t wr) (t':M.Tok):Tt w B p mb ab pl wt v bs n cop r lv bt t' (set3 wr bt (.int .u8 (t'.lit:Nat)) (.int .i64 (t'.len:Nat)) (.int .i64 (t'.dist:Nat))):=by
 have ht:=touch_set3 wr bt (.int .u8 (t'.lit:Nat)) (.int .i64 (t'.len:Nat)) (.int .i64 (t'.dist:Nat))
 have ho:=h.q.old
 have hn:=h.new
 exact ⟨h.q.touched (h.q.fin.touched ht (by omega) (by omega) (by omega) (fun k hk=>by omega)) ht (fun k hk=>by omega) (fun k hk hs=>h.nb k hk hs),blk_set3 h.x _ _ _,hn,h.nb⟩
theorem Tt.app {lv':Value} {o:Obj} {m:Nat} (h:Tt w B p mb ab pl wt v bs n cop r lv bt t wr) (hA:Apg (wr.alloc o) w.heap.size 128 3 lv m (tcl r++tcl [t]) lv' w') (hm:m=r.length+1):Tt w B p mb ab pl wt v bs n cop (r++[t]) lv' bt t w':=by
 subst hm
 have hB:=hA.alloc
 have ho:=h.q.old
 have hlow:∀ k,lv.ownBlock=some k→w.heap.size≤k:=fun k hk=>(h.q.own.lt k hk).1
 have hF:=h.q.fin.touched hB.touch (fun e=>by have:=hlow _ e;omega) (fun e=>by have:=hlow _ e;omega) (fun e=>by have:=hlow _ e;omega) (fun k hk=>by have:=hlow k hk;omega)
 refine ⟨⟨hF,?_,h.q.below.trans (hB.touch.below (Nat.le_trans ho.2.2.2 h.q.below.size) fun k hk=>by have:=hlow k hk;omega),ho⟩,h.x.touch hB.touch fun e=>h.nb _ e rfl,h.new,fun k hk=>?_⟩
 ·have:=hB.own
  rw [tcl_app] at this
  rwa [List.length_append,List.length_singleton]
 ·rcases hB.row k hk with e | e
  ·exact h.nb k e
  ·have:=h.x.lt;omega
theorem Tt.copy (h:Tt w B p mb ab pl wt v bs n cop r lv bt t wr) (c:Bool):Tt w B p mb ab pl wt v bs n c r lv bt t (wr.setCell ⟨p,5,none⟩ (.bool c)):=by
 obtain ⟨hF,ht⟩:=h.q.fin.setCop c
 have ho:=h.q.old
 have hf:=h.q.fin.far
 have hn:=h.new
 exact ⟨⟨hF,ownsRow_touch h.q.own ht (fun k hk hs=>by have:=(h.q.own.lt k hk).1;omega),h.q.below.trans (ht.below (Nat.le_trans ho.2.2.2 h.q.below.size) fun k hk=>by omega),ho⟩,h.x.touch ht (by omega),hn,h.nb⟩
end
def tksF (bs:List Nat) (pl wt:Nat):Nat→Nat→Bool→List M.Tok
 | 0,_,_=>[]
 | fu+1,at_,cop=>
  if at_<bs.length then
   (if gvF bs at_ cop pl wt (tokF bs at_ cop pl).len then ⟨bs.getD at_ 0,0,0⟩ else tokF bs at_ cop pl) ::
    tksF bs pl wt fu (at_+M.tells (if gvF bs at_ cop pl wt (tokF bs at_ cop pl).len then ⟨bs.getD at_ 0,0,0⟩ else tokF bs at_ cop pl)) (cop || decide (0<(if gvF bs at_ cop pl wt (tokF bs at_ cop pl).len then ⟨bs.getD at_ 0,0,0⟩ else tokF bs at_ cop pl:M.Tok).len))
  else []
theorem tksF_step {bs:List Nat} {pl wt fu at_:Nat} {cop:Bool} {t:M.Tok} (h:at_<bs.length) (ht:t=if gvF bs at_ cop pl wt (tokF bs at_ cop pl).len then ⟨bs.getD at_ 0,0,0⟩ else tokF bs at_ cop pl) :
  tksF bs pl wt (fu+1) at_ cop=t::tksF bs pl wt fu (at_+M.tells t) (cop || decide (0<t.len)):=by
 rw [tksF,if_pos h,ht]
theorem tksF_end {bs:List Nat} {pl wt fu at_:Nat} {cop:Bool} (h:bs.length≤at_):tksF bs pl wt fu at_ cop=[]:=by
 cases fu with
 | zero=>rfl
 | succ n=>rw [tksF,if_neg (by omega)]
def TokTo (B:Nat) (bs:List Nat) (pl wt:Nat) (w:World) (e:Ending) (w':World):Prop:=
 ∃ ao c r,e = .returned (.slice ao r.length c)∧KS w' ao r∧Below B w w'∧(r.length≤c∧(ao=none→c=0)∧(r=[]→ao=none))∧M.ex r []=some bs∧(∀ t∈r,t.lit<256)∧((∃ t∈r,t.len≠0)∨M.NoFour bs)∧r=tksF bs pl wt (bs.length+1) 0 false
theorem own_cap {w:World} {base e size n c:Nat} {ao:Option Addr} {xs:List Value} (h:w.ownsRow base e size (.slice ao n c) n xs):n≤c∧(ao=none→c=0):=by
 rcases h.2 with ⟨h1,h2⟩ | ⟨g,cap,cur,he,_,_,hc,_⟩
 ·cases h1;exact ⟨by omega,fun _=>rfl⟩
 ·cases he;exact ⟨hc,fun h=>by cases h⟩
set_option maxHeartbeats 6400000 in
theorem tokens_any (p mb ab pl wt:Nat) (v:Value) (bs:List Nat) (B:Nat) (w:World) (h:Fin w B p mb ab pl wt v bs false 0) (hb:Bs bs) (hl:bs.length≤30000) (hB:B≤w.heap.size) (hold:p<w.heap.size∧mb<w.heap.size∧ab<w.heap.size) :
  Calls Tryz.prog 83 #[.pointer (some ⟨p,0,none⟩)] w (TokTo B bs pl wt w):=by
 obtain ⟨ao,c,rfl⟩:=by_shape h.by_
 have H0:Hid (Tq w B p mb ab pl wt (.slice ao bs.length c) bs (kp bs 0) false [] (.slice none 0 0) w):=Lib.hid ⟨by rw [show kp bs 0=0 by unfold kp;omega];exact h,⟨rfl,.inl ⟨rfl,rfl⟩⟩,Below.refl _ _,hold.1,hold.2.1,hold.2.2,hB⟩
 obtain ⟨L,hL⟩:∃ L,L=bs.length:=⟨_,rfl⟩
 have HL:=Lib.hid hL
 have HB:=Lib.hid (And.intro hb hl)
 rw [←hL] at hl
 clear h hb hB hold hL
 go_enter Tryz.func83,Tryz.ntmps83
 go_wp2
 go_loopg [3,4] (L+1) (fun gm v3 v4 wr=>∃ (at_ k:Nat) (lo:Option Addr) (lc:Nat),at_≤L∧L+1-at_≤gm∧k≤at_∧(k=0→lo=none)∧v3 = .slice lo k lc∧v4 = .int .i64 (at_:Nat)∧Hid (∃ (r:List M.Tok) (cop:Bool),r.length=k∧Tq w B p mb ab pl wt (.slice ao bs.length c) bs (kp bs at_) cop r (.slice lo k lc) wr∧M.Sof bs at_ r cop∧∃ fu,L<at_+fu∧r++tksF bs pl wt fu at_ cop=tksF bs pl wt (L+1) 0 false))
 case atStart=>exact ⟨0,0,none,0,Nat.zero_le _,Nat.le_refl _,Nat.le_refl _,fun _=>rfl,rfl,rfl,Lib.hid ⟨[],false,rfl,H0.out,M.Sof.start bs,L+1,by omega,rfl⟩⟩
 case round=>
  clear H0
  obtain ⟨at_,k,lo,lc,ha,hgm,hka,hk0,rfl,rfl,HX⟩:=hrel
  have HK0:=Lib.hid hk0
  clear hk0
  obtain ⟨r,cop,hrk,hT,hS,hFU⟩:=HX.out
  have HT:=Lib.hid hT
  have HS:=Lib.hid hS
  have HRK:=Lib.hid hrk
  have HFU:=Lib.hid hFU
  have c2:=(hT.fin.blk.cell 2).trans (show _=some (Value.slice ao bs.length c) from rfl)
  rw [←HL.out] at c2
  clear hrk hT hS HX hFU
  by_cases hlt:at_<L
  ·have hlt':(at_:Int)<L:=by omega
   go_wp2_with fail
   refine (tokenAt_any p mb ab pl wt _ bs cop B at_ wr HT.out.fin HB.out.1 HB.out.2 (by rw [←HL.out];exact hlt)).mono ?_
   rintro e w2 ⟨⟨⟨tl,tL,tD⟩,rfl,htold,hteq⟩,hb2⟩
   have HTEQ:=Lib.hid hteq
   clear hteq
   have HT2:=Lib.hid ((HT.out.grow hb2).made ⟨tl,tL,tD⟩)
   have HTO:=Lib.hid htold
   clear hb2 c2 HT htold
   obtain ⟨bt,hbt⟩:∃ bt,bt=w2.heap.size:=⟨_,rfl⟩
   rw [←hbt] at HT2
   go_wp2_with fail
   refine (keep_any p mb ab pl wt _ bs cop B at_ _ HT2.out.q.fin HB.out.1 HB.out.2 (by rw [←HL.out];exact hlt)).mono ?_
   rintro e w3 ⟨rfl,hf3,ht3⟩
   have HT3:=Lib.hid (HT2.out.keep hf3 ht3)
   rw [←hbt]
   have x0:=(HT3.out.x.cell 0).trans (show _=some (.int .u8 (tl:Nat)) from rfl)
   have x1:=(HT3.out.x.cell 1).trans (show _=some (.int .i64 (tL:Nat)) from rfl)
   have x2:=(HT3.out.x.cell 2).trans (show _=some (.int .i64 (tD:Nat)) from rfl)
   have htL:tL≤258∧(0<tL→at_+1<L):=by
    rcases HTO.out.is with h1 | ⟨_,h3,h4,h5⟩
    ·have:tL=0:=congrArg M.Tok.len h1
     omega
    ·have h6:=h5.2.2.2.1
     rw [←HL.out] at h6
     simp only at h3 h4 h6
     omega
   clear hf3 ht3 HT2 hbt
   go_wp2_with fail
   refine (givesWay_any p mb ab pl wt tl tL tD _ bs cop B at_ w3 HT3.out.q.fin HB.out.1 HB.out.2 (by rw [←HL.out];exact htL.2) (by omega) htL.1).mono ?_
   rintro e w4 ⟨⟨cg,rfl,hcg,hcge⟩,hb4⟩
   have HCGE:=Lib.hid (show cg=gvF bs at_ cop pl wt (tokF bs at_ cop pl).len by rw [hcge,←HTEQ.out])
   clear hcge
   have HT4:=Lib.hid (HT3.out.grow hb4)
   have HCG:=Lib.hid hcg
   clear hb4 HT3 x0 x1 x2 hcg htL
   go_upto_if 23 with fail
   go_cut [] from 7 to 61 (fun wx=>∃ t:M.Tok,Hid (Tt w B p mb ab pl wt (.slice ao bs.length c) bs (kp bs (at_+1)) cop r (.slice lo k lc) bt t wx)∧Hid (M.Told bs at_ cop t∧t=if gvF bs at_ cop pl wt (tokF bs at_ cop pl).len then ⟨bs.getD at_ 0,0,0⟩ else tokF bs at_ cop pl))
   case first=>
    cases cg with
    | false=>
     go_wp2
     go_meet
     case rel=>exact ⟨_,HT4,Lib.hid ⟨HTO.out,by rw [←HCGE.out,if_neg (by decide)];exact HTEQ.out⟩⟩
    | true=>
     obtain ⟨bk,off,rfl,k1⟩:=by_cell HT4.out.q.fin.by_ at_ (by rw [←HL.out];exact hlt)
     have c2:=(HT4.out.q.fin.blk.cell 2).trans (show _=some (Value.slice (some ⟨bk,off,none⟩) bs.length c) from rfl)
     rw [←HL.out] at c2
     obtain ⟨y,hy⟩:∃ y,y=bs.getD at_ 0:=⟨_,rfl⟩
     rw [←hy] at k1
     have HY:=Lib.hid hy
     have x0:=(HT4.out.x.cell 0).trans (show _=some (.int .u8 (tl:Nat)) from rfl)
     have x1:=(HT4.out.x.cell 1).trans (show _=some (.int .i64 (tL:Nat)) from rfl)
     have x2:=(HT4.out.x.cell 2).trans (show _=some (.int .i64 (tD:Nat)) from rfl)
     have f0:=HT4.out.x.free 0
     have f1:=HT4.out.x.free 1
     have f2:=HT4.out.x.free 2
     clear hy
     go_wp2
     go_meet
     case rel=>exact ⟨⟨y,0,0⟩,Lib.hid (HT4.out.set ⟨y,0,0⟩),Lib.hid ⟨by rw [HY.out];exact M.Told.lit (by simpa using HCG.out),by rw [←HCGE.out,if_pos rfl,HY.out]⟩⟩
   case rest=>
   clear HT4 HTO HCG HCGE HTEQ
   obtain ⟨⟨sl,sL,sD⟩,HT5,HTP⟩:=hcut
   have HTO:=Lib.hid HTP.out.1
   have HTQ:=Lib.hid HTP.out.2
   clear HTP
   have x0:=(HT5.out.x.cell 0).trans (show _=some (.int .u8 (sl:Nat)) from rfl)
   have x1:=(HT5.out.x.cell 1).trans (show _=some (.int .i64 (sL:Nat)) from rfl)
   have x2:=(HT5.out.x.cell 2).trans (show _=some (.int .i64 (sD:Nat)) from rfl)
   have HTL:Hid (at_+M.tells ⟨sl,sL,sD⟩≤L∧M.tells ⟨sl,sL,sD⟩≤258):=Lib.hid (by have:=HTO.out.tells (by rw [←HL.out];exact hlt);rwa [←HL.out] at this)
   have hsL:sL≤258:=by have:=HTL.out.2;unfold M.tells at this;simp only at this;omega
   have HOWN:Hid (wc.ownsRow w.heap.size 128 3 (.slice lo k lc) k (tcl r)):=Lib.hid (by have:=HT5.out.q.own;rwa [HRK.out] at this)
   have hsz:w.heap.size≤wc.heap.size:=by
    have:=HT5.out.q.old.1
    have h1:=HT5.out.x.lt
    have h2:=HT5.out.new
    omega
   have HAPP:Hid (∀ ao2 cc2 w5,Apg (wc.alloc (.cells #[.int .u8 (sl:Nat),.int .i64 (sL:Nat),.int .i64 (sD:Nat)] 128)) w.heap.size 128 3 (.slice lo k lc) (k+1) (tcl r++tcl [⟨sl,sL,sD⟩]) (.slice ao2 (k+1) cc2) w5→Tt w B p mb ab pl wt (.slice ao bs.length c) bs (kp bs (at_+1)) cop (r++[⟨sl,sL,sD⟩]) (.slice ao2 (k+1) cc2) bt ⟨sl,sL,sD⟩ w5):=Lib.hid fun ao2 cc2 w5 hA=>HT5.out.app hA (by rw [HRK.out])
   go_upto_region 9 with (refine wpList_append_g at_tok rfl (.tmp 32) (.tmp 34) rfl w.heap.size (.slice lo k lc) (.slice (some ⟨wc.heap.size,0,none⟩) 1 1) k 1 (tcl r) (tcl [⟨sl,sL,sD⟩]) rfl rfl (World.ownsRow.alloc (w:=wc) HOWN.out _) (cells_three wc 128 _ _ _) rfl (tcl_one _) (by simp;omega) (by omega) (by omega) ?_;intro ao2 cc2 w6 hA;have HT6:=Lib.hid (HAPP.out ao2 cc2 w6 hA);clear hA)
   have c5:=(HT6.out.q.fin.blk.cell 5).trans (show _=some (Value.bool cop) from rfl)
   have f5:=HT6.out.q.fin.blk.free 5
   have z1:=(HT6.out.x.cell 1).trans (show _=some (.int .i64 (sL:Nat)) from rfl)
   clear HT5 HAPP HOWN x0 x1 x2 hsz
   go_cut [] from 7 to 61 (fun wx=>Hid (Tt w B p mb ab pl wt (.slice ao bs.length c) bs (kp bs (at_+1)) (cop || decide (0<sL)) (r++[⟨sl,sL,sD⟩]) (.slice ao2 (k+1) cc2) bt ⟨sl,sL,sD⟩ wx))
   case first=>
    cases cop with
    | true=>
     go_wp2
     go_meet
     case rel=>exact Lib.hid (HT6.out.copy true)
    | false=>
     go_wp2
     go_meet
     case rel=>exact Lib.hid (by have:=HT6.out.copy (decide (0<sL));simpa using this)
   case rest=>
   have HT7:=hcut
   clear hcut HT6 c5 f5 z1
   obtain ⟨T,hTe⟩:∃ T,T=M.tells ⟨sl,sL,sD⟩:=⟨_,rfl⟩
   rw [←hTe] at HTL
   have HTE:=Lib.hid hTe
   have hT1:1≤T:=by rw [hTe];exact M.tells_pos _
   have hTb:=HTL.out
   have HSO:Hid (M.Sof bs (at_+T) (r++[⟨sl,sL,sD⟩]) (cop || decide (0<sL))):=Lib.hid (by
    rw [hTe]
    exact HS.out.step HB.out.1 HTO.out (by rw [←HL.out];exact hlt))
   have HFU2:Hid (∃ fu,L<at_+T+fu∧(r++[⟨sl,sL,sD⟩])++tksF bs pl wt fu (at_+T) (cop || decide (0<sL))=tksF bs pl wt (L+1) 0 false):=Lib.hid (by
    obtain ⟨fu,h1,h2⟩:=HFU.out
    obtain ⟨f,rfl⟩:∃ f,fu=f+1:=⟨fu-1,by omega⟩
    rw [tksF_step (by rw [←HL.out];exact hlt) HTQ.out] at h2
    refine ⟨f,by omega,?_⟩
    rw [←h2,hTe,List.append_assoc]
    rfl)
   have y0:=(HT7.out.x.cell 0).trans (show _=some (.int .u8 (sl:Nat)) from rfl)
   have y1:=(HT7.out.x.cell 1).trans (show _=some (.int .i64 (sL:Nat)) from rfl)
   have y2:=(HT7.out.x.cell 2).trans (show _=some (.int .i64 (sD:Nat)) from rfl)
   clear hTe HTL HS HTO HTQ HFU
   go_wp2_with fail
   refine (span_any ⟨sl,sL,sD⟩ _ (by simp only;omega)).mono ?_
   rintro e w8 ⟨rfl,hb8⟩
   rw [←HTE.out]
   have HT8:=Lib.hid (HT7.out.grow hb8).q
   obtain ⟨be,hbe⟩:∃ be,be=at_+T:=⟨_,rfl⟩
   have e1:IntKind.i64.wrap ((at_:Int)+T)=(be:Int):=by rw [IntKind.wrap_i64];omega
   have e2:(at_:Int)+T=(be:Int):=by omega
   rw [←hbe] at HSO hTb HFU2
   have hbe2:at_+1≤be:=by omega
   generalize (cop || decide (0<sL))=cop2 at HT7 HT8 HSO HFU2
   clear hb8 HT7 y0 y1 y2 HTE hbe hT1
   go_wp2
   go_loopg [4] (be+1) (fun gm v4 wr2=>∃ a2:Nat,at_+1≤a2∧a2≤be∧be+1-a2≤gm∧v4 = .int .i64 (a2:Nat)∧Hid (Tq w B p mb ab pl wt (.slice ao bs.length c) bs (kp bs a2) cop2 (r++[⟨sl,sL,sD⟩]) (.slice ao2 (k+1) cc2) wr2))
   case atStart=>exact ⟨at_+1,Nat.le_refl _,hbe2,by omega,by simp,HT8⟩
   case round=>
    clear HT8 e1 e2
    obtain ⟨a2,h1,h2,hgb,rfl,HT9⟩:=hrel
    by_cases hab:a2<be
    ·have hab':(a2:Int)<be:=by omega
     go_wp2_with fail
     refine (keep_any p mb ab pl wt _ bs cop2 B a2 _ HT9.out.fin HB.out.1 HB.out.2 (by rw [←HL.out];omega)).mono ?_
     rintro e w3 ⟨rfl,hf3,ht3⟩
     have HT10:=Lib.hid (HT9.out.keep hf3 ht3)
     clear hf3 ht3 HT9
     go_wp2
     go_roundg (be+1-(a2+1))
     case measure=>omega
     case rel=>exact ⟨a2+1,by omega,by omega,Nat.le_refl _,by simp,HT10⟩
    ·obtain rfl:a2=be:=by omega
     go_wp2
     go_roundg (L+1-a2)
     case measure=>omega
     case rel=>exact ⟨a2,k+1,ao2,cc2,by omega,Nat.le_refl _,by omega,fun h=>by omega,by simp,rfl,Lib.hid ⟨_,cop2,by rw [List.length_append,List.length_singleton,HRK.out],HT9.out,HSO.out,HFU2.out⟩⟩
  ·obtain rfl:at_=L:=by omega
   go_wp2
   go_ret
   have hk:=HRK.out
   subst hk
   exact ⟨lo,lc,r,rfl,own_ks HT.out.own rfl,HT.out.below,⟨(own_cap HT.out.own).1,(own_cap HT.out.own).2,fun h=>HK0.out (by rw [h];rfl)⟩,(HS.out.done (by rw [HL.out];exact Nat.le_refl _)).1,HS.out.lit,(HS.out.done (by rw [HL.out];exact Nat.le_refl _)).2,by obtain ⟨fu,_,h2⟩:=HFU.out;rw [tksF_end (by rw [HL.out];exact Nat.le_refl _),List.append_nil] at h2;rw [h2,HL.out]⟩
def sg (bs:List Nat) (i j:Nat):Value:=if j%3=0 then .int .u8 ((if j/3<i then bs.getD (j/3) 0 else 0:Nat):Int) else .int .i64 0
theorem sg_start (bs:List Nat) (n:Nat):va (n*3) (fun i=>(Value.agg #[.int .u8 0,.int .i64 0,.int .i64 0]).cells[i%(Value.agg #[.int .u8 0,.int .i64 0,.int .i64 0]).cells.size]!)=va (n*3) (sg bs 0):=by
 refine va_congr fun i _=>?_
 have hc:(Value.agg #[.int .u8 0,.int .i64 0,.int .i64 0]).cells = #[.int .u8 0,.int .i64 0,.int .i64 0]:=rfl
 rw [hc]
 unfold sg
 have h3:i%3=0∨i%3=1∨i%3=2:=by omega
 rcases h3 with h | h | h <;> simp [h]
theorem sg_step (bs:List Nat) (n i:Nat):(va n (sg bs i)).setIfInBounds (i*3) (.int .u8 (bs.getD i 0:Nat))=va n (sg bs (i+1)):=by
 rw [va_set]
 refine va_congr fun j _=>?_
 split
 ·rename_i h
  subst h
  unfold sg
  rw [if_pos (by omega),Nat.mul_div_cancel _ (by omega),if_pos (Nat.lt_succ_self _)]
 ·rename_i h
  unfold sg
  split
  ·have:j/3≠i:=by omega
   by_cases hj:j/3<i
   ·rw [if_pos hj,if_pos (by omega)]
   ·rw [if_neg hj,if_neg (by omega)]
  ·rfl
def lits (bs:List Nat):List M.Tok:=bs.map fun x=>⟨x,0,0⟩
theorem lits_ex (bs:List Nat):∀ l,M.ex (lits bs) l=some (l++bs):=by
 induction bs with
 | nil=>intro l;rw [List.append_nil];rfl
 | cons x bs ih=>
  intro l
  rw [show lits (x::bs)=⟨x,0,0⟩::lits bs from rfl,M.ex,if_pos ⟨.inl ⟨rfl,rfl⟩,Nat.zero_le _⟩,show M.one ⟨x,0,0⟩ l=l++[x] from by unfold M.one;rw [if_pos rfl],ih]
  simp
theorem lits_cells (bs:List Nat) (j:Nat) (v:Value) (h:(tcl (lits bs))[j]? = some v):v=sg bs bs.length j∧j<bs.length*3:=by
 have hj:j<bs.length*3:=by
  have:=(List.getElem?_eq_some_iff.1 h).1
  rw [tcl_len] at this
  simpa [lits] using this
 refine ⟨?_,hj⟩
 obtain ⟨h1,h2,h3⟩:=tcl_at (lits bs) (j/3) (by simp [lits];omega)
 have hk:tk (lits bs) (j/3)=⟨bs.getD (j/3) 0,0,0⟩:=by
  unfold tk lits
  have:j/3<bs.length:=by omega
  simp [List.getD_eq_getElem?_getD,List.getElem?_eq_getElem this]
 rw [hk] at h1 h2 h3
 have hm:j%3=0∨j%3=1∨j%3=2:=by omega
 unfold sg
 rcases hm with e | e | e
 ·rw [show j/3*3=j by omega,h] at h1
  cases h1
  rw [if_pos e,if_pos (by omega)]
 ·rw [show j/3*3+1=j by omega,h] at h2
  cases h2
  rw [if_neg (by omega)];rfl
 ·rw [show j/3*3+2=j by omega,h] at h3
  cases h3
  rw [if_neg (by omega)];rfl
set_option maxHeartbeats 1600000 in
theorem singles_any (v:Value) (bs:List Nat) (w:World) (h:BySl w v bs) (hb:Bs bs) (hl:bs.length≤30000) :
  Calls Tryz.prog 82 #[v] w fun e w'=>∃ ao c,e = .returned (.slice ao (lits bs).length c)∧KS w' ao (lits bs)∧Below w.heap.size w w'∧((lits bs).length≤c∧(ao=none→c=0)):=by
 obtain ⟨ao,c,rfl⟩:=by_shape h
 have HS:=Lib.hid h
 have HB:=Lib.hid hb
 obtain ⟨L,hL⟩:∃ L,L=bs.length:=⟨_,rfl⟩
 have HL:=Lib.hid hL
 rw [←hL] at hl ⊢
 obtain ⟨g,hg⟩:∃ g,g=w.heap.size:=⟨_,rfl⟩
 have HG:=Lib.hid hg
 clear h hb hL
 go_enter Tryz.func82,Tryz.ntmps82
 go_wp2_with (refine wpList_make_z rfl 99 _ _ rfl 128 (.agg #[.int .u8 0,.int .i64 0,.int .i64 0]) 3 24 L Tryz.underlying99 (by kernel_rfl) _ _ (L:Int) (L:Int) rfl rfl rfl rfl (by omega) (by omega) ?_;intro W1 hb1 ht1 hs1;rw [←hg] at hb1 ⊢;rw [sg_start bs L] at hb1;have HK1:=Lib.hid hb1;have HT1:=Lib.hid ht1;clear hb1 ht1 hs1 hg)
 go_loopg [11] (L+1) (fun gm v11 wr=>∃ i:Nat,i≤L∧L+1-i≤gm∧v11 = .int .i64 (i:Nat)∧Hid (Blk wr g 128 (va (L*3) (sg bs i))∧Below w.heap.size w wr))
 case atStart=>exact ⟨0,Nat.zero_le _,Nat.le_refl _,rfl,Lib.hid ⟨HK1.out,HT1.out.none_below⟩⟩
 case round=>
  clear HK1 HT1
  obtain ⟨i,hi,hgm,rfl,HX⟩:=hrel
  by_cases hlt:i<L
  ·have hlt':(i:Int)<L:=by omega
   obtain ⟨bk,off,rfl,k1⟩:=by_cell (by_on HS.out HX.out.2) i (by rw [←HL.out];exact hlt)
   obtain ⟨y,hy⟩:∃ y,y=bs.getD i 0:=⟨_,rfl⟩
   rw [←hy] at k1
   have HY:=Lib.hid hy
   have x0:=(HX.out.1.cell (i*3)).trans (va_at _ _ (i*3) (by omega))
   obtain ⟨z,hz⟩:∃ z,sg bs i (i*3) = .int .u8 z:=by unfold sg;rw [if_pos (by omega)];exact ⟨_,rfl⟩
   rw [hz] at x0
   have f0:=HX.out.1.free (i*3)
   have e1:IntKind.i64.wrap ((i:Int)*3)=(i:Int)*3:=by rw [IntKind.wrap_i64];omega
   clear hy hz
   go_wp2
   go_roundg (L+1-(i+1))
   case measure=>omega
   case rel=>
    refine ⟨i+1,by omega,Nat.le_refl _,by simp,Lib.hid ⟨?_,?_⟩⟩
    ·have:=HX.out.1.setCell (i*3) (.int .u8 (y:Nat))
     rw [HY.out,sg_step] at this
     rw [HY.out]
     exact this
    ·have ht:Touch (fun k=>k=g) wr (wr.setCell ⟨g,i*3,none⟩ (.int .u8 (y:Nat))):=(Touch.refl _ wr).setCell _ _ (.inl rfl)
     exact HX.out.2.trans (ht.below HX.out.2.size fun k hk=>by rw [hk,HG.out];exact Nat.le_refl _)
  ·obtain rfl:i=L:=by omega
   go_wp2
   go_ret
   have hll:(lits bs).length=i:=by rw [HL.out];simp [lits]
   rw [hll]
   refine ⟨_,_,rfl,.inr ⟨g,0,rfl,fun j u hu=>?_⟩,HX.out.2,by exact ⟨Nat.le_refl _,fun e=>by cases e⟩⟩
   obtain ⟨rfl,hj⟩:=lits_cells bs j u hu
   rw [Nat.zero_add,HX.out.1.cell,va_at _ _ _ (by rw [HL.out];exact hj),HL.out]
end
end Go.Proofs.YtacpfpghokcdlaaGreatDoor.V
namespace Go.Proofs.YtacpfpghokcdlaaGreatDoor
set_option maxRecDepth 100000
section
open Go.RowKit
theorem tk_own (w:World) (t:Tok):(w.alloc (.cells #[.int .u8 (t.lit:Nat),.int .i64 (t.len:Nat),.int .i64 (t.dist:Nat)] 128)).ownsRow w.heap.size 128 3 (.slice (some ⟨w.heap.size,0,none⟩) 1 1) 1 (V.tcl [t]):=
 ⟨rfl,.inr ⟨w.heap.size,1,#[.int .u8 (t.lit:Nat),.int .i64 (t.len:Nat),.int .i64 (t.dist:Nat)],rfl,Nat.le_refl _,Blk.made w 128 _,Nat.le_refl _,by unfold maxLen;omega,rfl,rfl⟩⟩
theorem own_cellsAt {w:World} {base e sz n c:Nat} {ao:Option Addr} {xs:List Value} (h:w.ownsRow base e sz (.slice ao n c) n xs):CellsAt w (.slice ao n c) n xs:=by
 rcases h.2 with ⟨h1,h2⟩ | ⟨g,cap,cur,he,hbg,hh,hnc,hcm,hcs,htake⟩
 ·exact .inl ⟨h1,h2,List.eq_nil_of_length_eq_zero (by rw [h.1,h2,Nat.zero_mul])⟩
 ·simp only [Value.slice.injEq] at he
  obtain ⟨rfl,_,rfl⟩:=he
  refine .inr ⟨⟨g,0,none⟩,c,rfl,fun j u hu=>?_⟩
  have hj:j<n*sz:=by
   have:=(List.getElem?_eq_some_iff.1 hu).1
   rwa [h.1] at this
  rw [Addr.add_lit,Nat.zero_add,World.ownsRow.cellAt h j hj,hu]
set_option maxHeartbeats 1600000 in
theorem part_any (l L d cb:Nat) (bo:Option Addr) (b:List Nat) (w:World) (hs:BySl w (.slice bo b.length cb) b) (hbl:b.length≤1000000) :
  Calls Tryz.prog 81 #[.agg #[.int .u8 (l:Nat),.int .i64 (L:Nat),.int .i64 (d:Nat)],.slice bo b.length cb] w fun e w'=>∃ ao c,e = .returned (.slice ao (partF d b).length c)∧w'.ownsRow w.heap.size 128 3 (.slice ao (partF d b).length c) (partF d b).length (V.tcl (partF d b))∧Below w.heap.size w w':=by
 have HS:=Lib.hid hs
 obtain ⟨M,hM⟩:∃ M,M=b.length:=⟨_,rfl⟩
 have HM:=Lib.hid hM
 rw [←hM] at hbl ⊢
 obtain ⟨W1,hW1⟩:∃ W1,W1=w.alloc (.cells #[.int .u8 (l:Nat),.int .i64 (L:Nat),.int .i64 (d:Nat)] 128):=⟨_,rfl⟩
 have HB1:Hid (Below w.heap.size w W1):=Lib.hid (by rw [hW1];exact (Below.refl _ _).alloc (Nat.le_refl _) _)
 have S1:=Lib.hid (HS.out.grow HB1.out)
 obtain ⟨bx,hbx⟩:∃ bx,bx=w.heap.size:=⟨_,rfl⟩
 have x2:W1.cell? ⟨bx,2,none⟩=some (.int .i64 (d:Nat)):=by rw [hW1,hbx,(Blk.made w 128 _).cell];rfl
 obtain ⟨PF,hPF⟩:∃ PF,PF=partF d b:=⟨_,rfl⟩
 have HPF:=Lib.hid hPF
 rw [←hPF]
 clear hs hM hPF
 by_cases h3:3≤M
 ·have h3':(3:Int)≤M:=by omega
  have HP:Hid (PF=[⟨0,M,d⟩]):=Lib.hid (by rw [HPF.out];unfold partF;rw [←HM.out,if_pos h3])
  go_enter Tryz.func81,Tryz.ntmps81
  go_upto_region 1 with fail
  rw [←hW1,←hbx]
  clear hW1 hbx
  go_wp2
  go_ret
  rw [HP.out]
  exact ⟨_,_,rfl,own_base (tk_own W1 ⟨0,M,d⟩) HB1.out.size,HB1.out.more (Nat.le_refl _) _⟩
 ·have h3':¬((3:Int)≤M):=by omega
  have HP:Hid (PF=b.map fun c=>⟨c,0,0⟩):=Lib.hid (by rw [HPF.out];unfold partF;rw [←HM.out,if_neg h3])
  go_enter Tryz.func81,Tryz.ntmps81
  go_upto_region 1 with fail
  rw [←hW1,←hbx]
  clear hW1 hbx x2
  go_wp2
  go_loopw [5,19] (fun v5 v19 wr=>∃ (i:Nat) (ao:Option Addr) (c:Nat),i≤M∧v5 = .slice ao i c∧v19 = .int .i64 (i:Nat)∧Hid (wr.ownsRow w.heap.size 128 3 (.slice ao i c) i (V.tcl ((b.take i).map fun c=>⟨c,0,0⟩))∧Below w.heap.size w wr)) (fun _ v19 _=>M-(intOf v19).toNat)
  case atStart=>exact ⟨0,none,0,Nat.zero_le _,rfl,rfl,Lib.hid ⟨⟨rfl,.inl ⟨rfl,rfl⟩⟩,HB1.out⟩⟩
  case round=>
   obtain ⟨i,ao,c,hi,rfl,rfl,HX⟩:=hrel
   by_cases hlt:i<M
   ·have hlt':(i:Int)<M:=by omega
    obtain ⟨bk,off,rfl,k1⟩:=V.by_cell (HS.out.grow HX.out.2) i (by rw [←HM.out];exact hlt)
    obtain ⟨y,hy⟩:∃ y,y=b.getD i 0:=⟨_,rfl⟩
    rw [←hy] at k1
    have HAPP:Hid (∀ ao2 cc2 w5,Apg (wr.alloc (.cells #[.int .u8 (y:Nat),.int .i64 0,.int .i64 0] 128)) w.heap.size 128 3 (.slice ao i c) (i+1) (V.tcl ((b.take i).map fun c=>⟨c,0,0⟩)++V.tcl [⟨y,0,0⟩]) (.slice ao2 (i+1) cc2) w5→w5.ownsRow w.heap.size 128 3 (.slice ao2 (i+1) cc2) (i+1) (V.tcl ((b.take (i+1)).map fun c=>⟨c,0,0⟩))∧Below w.heap.size w w5):=Lib.hid fun ao2 cc2 w5 hA=>by
     refine ⟨?_,HX.out.2.trans (hA.alloc.below HX.out.1 HX.out.2.size)⟩
     have e:b.take (i+1)=b.take i++[y]:=by
      have hib:i<b.length:=by rw [←HM.out];exact hlt
      rw [List.take_succ_eq_append_getElem hib,hy,List.getD_eq_getElem?_getD,List.getElem?_eq_getElem hib];rfl
     rw [e,List.map_append,←V.tcl_app]
     exact hA.own
    have hll:(V.tcl ((b.take i).map fun c=>(⟨c,0,0⟩:Tok))).length=i*3:=by rw [V.tcl_len,List.length_map,List.length_take];have:=HM.out;omega
    have HLL:=Lib.hid hll
    have hsz:=HX.out.2.size
    clear hy hll
    go_wp2_with (refine wpList_append_g V.at_tok rfl (.tmp 23) (.tmp 26) rfl w.heap.size (.slice ao i c) (.slice (some ⟨wr.heap.size,0,none⟩) 1 1) i 1 (V.tcl ((b.take i).map fun c=>⟨c,0,0⟩)) (V.tcl [⟨y,0,0⟩]) rfl rfl (World.ownsRow.alloc (w:=wr) HX.out.1 _) (V.cells_three wr 128 _ _ _) rfl (V.tcl_one _) (by simp;omega) (by omega) (by omega) ?_;intro ao2 cc2 w6 hA;have HT6:=Lib.hid (HAPP.out ao2 cc2 w6 hA);clear hA)
    go_roundw
    case rel=>exact ⟨i+1,ao2,cc2,by omega,rfl,by go_num,HT6⟩
    case measure=>simp [intOf];omega
   ·obtain rfl:i=M:=by omega
    have hpl:PF.length=i:=by rw [HP.out,List.length_map,←HM.out]
    have hpf:PF=(b.take i).map fun c=>⟨c,0,0⟩:=by rw [HP.out,HM.out,List.take_length]
    go_wp2
    go_ret
    rw [hpl,hpf]
    exact ⟨ao,c,rfl,HX.out.1,HX.out.2⟩
theorem Ob.walign {w:World} {base p:Nat} {g:Option Nat} {bs:List Nat} {n:Nat} (h:Ob w base 118 p g bs n) (hl:bs.length≤1000000000) :
  Calls Tryz.prog 69 #[.pointer (some ⟨p,0,none⟩)] w fun e w'=>e = .returned (.tuple #[])∧Moved w base 118 p g bs (8*bs.length) w':=by
 obtain ⟨sv,h1,_,h3⟩:=h.blk
 obtain ⟨ao,c,rfl⟩:=own_shape h3
 obtain ⟨c0,c1,f0,f1⟩:=two_cell h1
 have HM:=Lib.hid (Moved.mk' h 0 (8*bs.length) (x:=(bs.length:Int)*8) (by omega))
 clear h1 h h3
 go_enter Tryz.func69,Tryz.ntmps69
 go_wp2
 go_end0
 exact ⟨rfl,HM.out⟩
set_option maxHeartbeats 400000 in
theorem Ob.wraw {w:World} {base p:Nat} {g:Option Nat} {bs:List Nat} {n:Nat} {sv:Value} {ys:List Nat} (h:Ob w base 118 p g bs n) (hs:BySl w sv ys) (hy:Bs ys) (hl:bs.length+ys.length≤1000000000) :
  Calls Tryz.prog 71 #[.pointer (some ⟨p,0,none⟩),sv] w fun e w'=>e = .returned (.tuple #[])∧Grew w base 118 p g (bs++ys) (8*(bs++ys).length) w':=by
 obtain ⟨fv,h1,hg,h3⟩:=h.blk
 subst hg
 have hlt:=h.lt.1
 have hbase:=h.hp
 obtain ⟨ao,c,rfl⟩:=own_shape h3
 obtain ⟨c0,c1,f0,f1⟩:=two_cell h1
 have HB:=Lib.hid h1
 have H:=Lib.hid h
 have HS:=Lib.hid hs
 have HY:=Lib.hid hy
 have HO:=Lib.hid h3
 clear h1 h hs hy h3
 go_enter Tryz.func71,Tryz.ntmps71
 go_wp2_with (at_builtin;refine wpList_append_x rfl (.tmp 8) (.tmp 9) rfl base (.slice ao bs.length c) sv bs ys rfl rfl HO.out HS.out (by omega) (by omega) ?c1)
 case c1=>
  intro ao' c' w1 hA
  have hG:=grew_of H.out hA (H.out.hb.app HY.out) HB.out
  obtain ⟨d0,d1,e0,e1⟩:=two_cell hG.1
  have hG2:=hG.2
  obtain ⟨g1,ho,ht,hr⟩:=hG2
  have HO1:=Lib.hid ho
  have HT1:=Lib.hid ht
  have HR1:=Lib.hid hr
  clear hG hA ho ht hr
  go_wp2_with (go_at_call 69;refine (HO1.out.walign (by rw [List.length_append];exact hl)).mono ?_;rintro e w' ⟨rfl,hm⟩)
  go_end0
  exact ⟨rfl,Grew.on HO1.out HT1.out HR1.out hm.grew⟩
theorem Wr.raw {w:World} {base p:Nat} {g:Option Nat} {N n:Nat} {sv:Value} {ys:List Nat} (h:Wr w base p g N n) (hs:BySl w sv ys) (hy:Bs ys) (hn:n≤7000000000) (hl:ys.length≤1000000) (N' n':Nat) (hN:N+num ys*2^up8 n=N') (hn':up8 n+8*ys.length=n') :
  Calls Tryz.prog 71 #[.pointer (some ⟨p,0,none⟩),sv] w fun e w'=>e = .returned (.tuple #[])∧PutTo w base p g N' n' w':=by
 subst hN;subst hn'
 obtain ⟨bs,ho,hw,rfl⟩:=h
 have hsm:=hw.small hn
 refine (ho.wraw hs hy (by omega)).mono ?_
 rintro e w' ⟨rfl,g',ho',ht',hr⟩
 have e1:up8 n+8*ys.length=8*(bs++ys).length:=by rw [hw.up,List.length_append];omega
 have e2:num bs+num ys*2^up8 n=num (bs++ys):=by rw [num_app,hw.up,pow256,Nat.mul_comm]
 rw [e1,e2]
 exact ⟨rfl,g',⟨bs++ys,ho',⟨Nat.le_refl _,by omega,by have:=num_lt ho'.hb;rw [pow256] at this;exact this⟩,rfl⟩,ht',hr⟩
theorem Wr.align {w:World} {base p:Nat} {g:Option Nat} {N n:Nat} (h:Wr w base p g N n) (hn:n≤7000000000) (n':Nat) (hn':up8 n=n') :
  Calls Tryz.prog 69 #[.pointer (some ⟨p,0,none⟩)] w fun e w'=>e = .returned (.tuple #[])∧PutTo w base p g N n' w':=by
 subst hn'
 obtain ⟨bs,ho,hw,rfl⟩:=h
 have hsm:=hw.small hn
 refine (ho.walign (by omega)).mono ?_
 rintro e w' ⟨rfl,hm⟩
 obtain ⟨g',ho',ht',hr⟩:=hm.grew
 rw [hw.up]
 exact ⟨rfl,g',⟨bs,ho',⟨Nat.le_refl _,by omega,by have:=num_lt ho'.hb;rw [pow256] at this;exact this⟩,rfl⟩,ht',hr⟩
theorem Wr.len {w:World} {base p:Nat} {g:Option Nat} {N n:Nat} (h:Wr w base p g N n) :
  Calls Tryz.prog 130 #[.pointer (some ⟨p,0,none⟩)] w fun e w'=>e = .returned (.int .i64 n)∧w=w':=by
 obtain ⟨bs,ho,hw,_⟩:=h
 obtain ⟨sv,h1,_,h3⟩:=ho.blk
 obtain ⟨c0,c1,f0,f1⟩:=two_cell h1
 clear h1 h3 ho hw
 go_enter Tryz.func130,Tryz.ntmps130
 go_wp2
 go_ret
 exact ⟨rfl,rfl⟩
section
variable {w w1 w2:World} {base p:Nat} {g:Option Nat} {N n M m:Nat}
theorem PutTo.refl (h:Wr w base p g N n):PutTo w base p g N n w:=⟨g,h,Touch.refl _ _,fun _ h => .inl h⟩
theorem Wr.grow (h:Wr w base p g N n) (hb:Below w.heap.size w w1):Wr w1 base p g N n:=h.touch (Touch.of_below hb:Touch (fun _=>False) w w1) fun _ _ h=>h
theorem PutTo.grow (h:PutTo w base p g N n w1) (hb:Below w1.heap.size w1 w2):PutTo w base p g N n w2:=by
 obtain ⟨g',h1,h2,h3⟩:=h
 exact ⟨g',h1.grow hb,h2.trans ((Touch.of_below hb:Touch (fun _=>False) w1 w2).mono fun _ h=>h.elim),h3⟩
theorem PutTo.then (h:PutTo w base p g N n w1):∃ g1,Wr w1 base p g1 N n∧∀ (M m:Nat) (w2:World),PutTo w1 base p g1 M m w2→PutTo w base p g M m w2:=by
 obtain ⟨g1,h1,h2,h3⟩:=h
 refine ⟨g1,h1,fun M m w2 k=>?_⟩
 obtain ⟨g2,k1,k2,k3⟩:=k
 refine ⟨g2,k1,h2.trans' k2 ?_,fun k hk=>?_⟩
 ·intro i hi hlt
  rcases hi with rfl | hi
  ·exact .inl rfl
  ·rcases h3 i hi with h | h
   ·exact .inr h
   ·omega
 ·rcases k3 k hk with h | h
  ·exact h3 k h
  ·exact .inr (Nat.le_trans h2.size h)
theorem PutTo.size (h:PutTo w base p g N n w1):w.heap.size≤w1.heap.size:=by obtain ⟨_,_,h2,_⟩:=h;exact h2.size
theorem PutTo.low (h:PutTo w base p g M m w1) (hw:Wr w base p g N n):Below base w w1:=by
 obtain ⟨_,_,h2,_⟩:=h
 have hb:base≤w.heap.size:=by have:=hw.foot (k:=p) (.inl rfl);omega
 exact h2.below hb fun k hk=>(hw.foot hk).1
theorem Wr.off (h:Wr w base p g N n) {b:Nat} {t:TypeId} {cs:Array Value} (hb:Blk w b t cs) (h1:t≠118) (h2:t≠5):¬Foot p g b:=by
 obtain ⟨bs,ho,_⟩:=h
 obtain ⟨sv,k1,k2,k3⟩:=ho.blk
 intro hf
 rcases hf with rfl | hf
 ·rw [Blk,k1] at hb
  simp at hb
  exact h1 hb.2.symm
 ·rcases k3.2 with ⟨rfl,_⟩ | ⟨g',cap,cur,rfl,_,hh,_⟩
  ·rw [←k2] at hf;simp [Value.ownBlock] at hf
  ·rw [←k2] at hf
   simp [Value.ownBlock] at hf
   subst hf
   rw [Blk,hh] at hb
   simp at hb
   exact h2 hb.2.symm
theorem PutTo.blk (h:PutTo w base p g M m w1) (hw:Wr w base p g N n) {b:Nat} {t:TypeId} {cs:Array Value} (hb:Blk w b t cs) (h1:t≠118) (h2:t≠5):Blk w1 b t cs:=by
 obtain ⟨_,_,k,_⟩:=h
 exact hb.touch k (hw.off hb h1 h2)
theorem PutTo.code (h:PutTo w base p g M m w1) (hw:Wr w base p g N n) {c:Nat} {ls:List Nat} (hc:CodeAt w c ls):CodeAt w1 c ls:=by
 obtain ⟨ho,gw,go,F,k1,k2,k3,k4⟩:=hc
 exact ⟨ho,gw,go,F,h.blk hw k1 (by decide) (by decide),h.blk hw k2 (by decide) (by decide),h.blk hw k3 (by decide) (by decide),k4⟩
end
def Wq (w:World) (base p:Nat) (g:Option Nat) (P:List (Nat × Nat)):Prop:=Wr w base p g (val P) (wid P)
def Pq (w:World) (base p:Nat) (g:Option Nat) (P:List (Nat × Nat)) (w':World):Prop:=PutTo w base p g (val P) (wid P) w'
theorem Pq.then {w w1:World} {base p:Nat} {g:Option Nat} {P:List (Nat × Nat)} (h:Pq w base p g P w1):∃ g1,Wq w1 base p g1 P∧∀ (Q:List (Nat × Nat)) (w2:World),Pq w1 base p g1 Q w2→Pq w base p g Q w2:=by
 obtain ⟨g1,h1,h2⟩:=PutTo.then h
 exact ⟨g1,h1,fun Q w2 k=>h2 _ _ w2 k⟩
theorem Pq.grow {w w1 w2:World} {base p:Nat} {g:Option Nat} {P:List (Nat × Nat)} (h:Pq w base p g P w1) (hb:Below w1.heap.size w1 w2):Pq w base p g P w2:=PutTo.grow h hb
theorem Pq.refl {w:World} {base p:Nat} {g:Option Nat} {P:List (Nat × Nat)} (h:Wq w base p g P):Pq w base p g P w:=PutTo.refl h
section
variable {w:World} {base p:Nat} {g:Option Nat} {P:List (Nat × Nat)}
theorem Wq.put (h:Wq w base p g P) (hn:wid P≤7000000000) (v:Int) (k X:Nat) (hv:v=(X:Int)) (hk:k≤32) (hX:X<2^k) :
  Calls Tryz.prog 70 #[.pointer (some ⟨p,0,none⟩),.int .u32 v,.int .i64 k] w fun e w'=>e = .returned (.tuple #[])∧Pq w base p g (P++[(X,k)]) w':=by
 subst hv
 have h32:2^k≤2^32:=Nat.pow_le_pow_right (by omega) hk
 refine (Wr.put h hn X k X (by omega) hk (Nat.mod_eq_of_lt hX)).mono ?_
 rintro e w' ⟨rfl,hp⟩
 refine ⟨rfl,?_⟩
 unfold Pq
 rw [val_app,wid_app,(val_one X k).1,(val_one X k).2,Nat.mul_comm]
 exact hp
theorem Wq.put0 (h:Wq w base p g P) (hn:wid P≤7000000000) (v:Nat) (hv:v<4294967296) :
  Calls Tryz.prog 70 #[.pointer (some ⟨p,0,none⟩),.int .u32 v,.int .i64 (0:Nat)] w fun e w'=>e = .returned (.tuple #[])∧Pq w base p g P w':=by
 refine (Wr.put h hn v 0 0 hv (by omega) (Nat.mod_one v)).mono ?_
 rintro e w' ⟨rfl,hp⟩
 refine ⟨rfl,?_⟩
 unfold Pq
 simpa using hp
set_option maxHeartbeats 800000 in
theorem Wq.sym (h:Wq w base p g P) (hn:wid P≤7000000000) {c:Nat} {ls:List Nat} (hc:CodeAt w c ls) (s:Nat) (hs:ln ls s≠0) :
  Calls Tryz.prog 132 #[.pointer (some ⟨c,0,none⟩),.pointer (some ⟨p,0,none⟩),.int .i64 s] w fun e w'=>e = .returned (.bool true)∧Pq w base p g (P++[cp ls s]) w':=by
 have HC:=Lib.hid hc
 have HW:=Lib.hid h
 have hr:=rv_cd hc.ok hs
 obtain ⟨V,hV⟩:∃ V,V=rv (ln ls s) (cd ls s):=⟨_,rfl⟩
 obtain ⟨m,hm⟩:∃ m,m=ln ls s:=⟨_,rfl⟩
 have hm32:m≤32:=by have:=ln_le hc.ok s;omega
 have HS:=Lib.hid hs
 have hVm:V<2^m:=by rw [hV,hm];exact rv_lt _ _
 have HVM:=Lib.hid hVm
 have HP:Hid (P++[cp ls s]=P++[(V,m)]):=Lib.hid (by rw [hV,hm];rfl)
 have HV:=Lib.hid hV.symm
 have HM:=Lib.hid hm.symm
 clear h hc hr hV hm hs hVm
 go_enter Tryz.func132,Tryz.ntmps132
 go_wp2_with (first
  | (go_at_call 163;(refine (Bits_yes c s ls _ HC.out HS.out V m HV.out HM.out).mono ?_);rintro e w2 ⟨rfl,nq,hw2⟩;have hb2:=below_drewN (Below.refl w.heap.size w) nq;rw [←hw2] at hb2;have HB2:=Lib.hid hb2;clear hw2 hb2)
  | (go_at_call 70;(refine (Wq.put (show Wq _ base p g P from Wr.grow HW.out HB2.out) hn (V:Int) m V rfl hm32 HVM.out).mono ?_);rintro e w3 ⟨rfl,hw3⟩;have HW3:=Lib.hid (Pq.then (Pq.grow (Pq.refl HW.out) HB2.out));have HW4:=Lib.hid hw3;clear hw3))
 go_ret
 refine ⟨rfl,?_⟩
 rw [HP.out]
 obtain ⟨g',k1,k2,k3⟩:=HW4.out
 have hT:Touch (fun _=>False) w w2:=Touch.of_below HB2.out
 exact ⟨g',k1,(hT.mono fun _ h=>h.elim).trans k2,fun k hk=>(k3 k hk).imp id fun h=>Nat.le_trans hT.size h⟩
end
def PkO (w:World) (pk pw:Nat):Prop:=∃ cs,Blk w pk 91 cs∧cs[0]? = some (.pointer (some ⟨pw,0,none⟩))
theorem PkO.cell {w:World} {pk pw:Nat} (h:PkO w pk pw):w.cell? ⟨pk,0,none⟩=some (.pointer (some ⟨pw,0,none⟩)):=by
 obtain ⟨cs,h1,h2⟩:=h
 rw [h1.cell,h2]
theorem PkO.keep {w w1:World} {base pw pk:Nat} {g:Option Nat} {P Q:List (Nat × Nat)} (h:PkO w pk pw) (hw:Wq w base pw g P) (hq:Pq w base pw g Q w1):PkO w1 pk pw:=by
 obtain ⟨cs,h1,h2⟩:=h
 exact ⟨cs,PutTo.blk hq hw h1 (by decide) (by decide),h2⟩
theorem PkO.grow {w w1:World} {pw pk:Nat} (h:PkO w pk pw) (hb:Below w.heap.size w w1):PkO w1 pk pw:=by
 obtain ⟨cs,h1,h2⟩:=h
 exact ⟨cs,h1.below hb,h2⟩
set_option maxHeartbeats 800000 in
theorem begin_any {w:World} {base pw pk:Nat} {g:Option Nat} {P:List (Nat × Nat)} (h:Wq w base pw g P) (ho:PkO w pk pw) (hn:wid P≤6000000000) (last:Bool) (k:Nat) (hk:k<4) :
  Calls Tryz.prog 68 #[.pointer (some ⟨pk,0,none⟩),.bool last,.int .u32 k] w fun e w'=>e = .returned (.tuple #[])∧Pq w base pw g (P++[(lb last,1),(k,2)]) w':=by
 have HW:=Lib.hid h
 have HO:=Lib.hid ho
 have c0:=ho.cell
 have HK:Hid (P++[(lb last,1),(k,2)]=(P++[(lb last,1)])++[(k,2)]):=Lib.hid (by simp)
 have HN:Hid (wid (P++[(lb last,1)])≤7000000000):=Lib.hid (by rw [wid_app,(val_one _ _).2];omega)
 clear h ho
 cases last
 ·have hl:lb false=0:=rfl
  go_enter Tryz.func68,Tryz.ntmps68
  go_wp2_with fail
  refine (HW.out.put (by omega) 0 1 (lb false) rfl (by omega) (by decide)).mono ?_
  rintro e w1 ⟨rfl,hq⟩
  obtain ⟨g1,hw1,hk1⟩:=hq.then
  have HW1:=Lib.hid hw1
  have HK1:=Lib.hid hk1
  have c1:=(HO.out.keep HW.out hq).cell
  clear hq hw1 hk1
  go_wp2_with fail
  refine (HW1.out.put HN.out k 2 k rfl (by omega) (by omega)).mono ?_
  rintro e w2 ⟨rfl,hq⟩
  have HQ:=Lib.hid (HK1.out _ _ hq)
  clear hq
  go_wp2
  go_end0
  exact ⟨rfl,by rw [HK.out];exact HQ.out⟩
 ·have hl:lb true=1:=rfl
  go_enter Tryz.func68,Tryz.ntmps68
  go_wp2_with fail
  refine (HW.out.put (by omega) 1 1 (lb true) rfl (by omega) (by decide)).mono ?_
  rintro e w1 ⟨rfl,hq⟩
  obtain ⟨g1,hw1,hk1⟩:=hq.then
  have HW1:=Lib.hid hw1
  have HK1:=Lib.hid hk1
  have c1:=(HO.out.keep HW.out hq).cell
  clear hq hw1 hk1
  go_wp2_with fail
  refine (HW1.out.put HN.out k 2 k rfl (by omega) (by omega)).mono ?_
  rintro e w2 ⟨rfl,hq⟩
  have HQ:=Lib.hid (HK1.out _ _ hq)
  clear hq
  go_wp2
  go_end0
  exact ⟨rfl,by rw [HK.out];exact HQ.out⟩
def stoC:Nat→Nat→List Nat→Bool→List (Nat × Nat)
 | 0,_,_,_=>[]
 | f+1,pos,b,last=>if b.length≤65535 then stoP pos b last else stoP pos (b.take 65535) false++stoC f (pos+wid (stoP pos (b.take 65535) false)) (b.drop 65535) last
def stoS (pos:Nat) (b:List Nat) (last:Bool):List (Nat × Nat):=stoC (b.length+1) pos b last
theorem stoS_small (pos:Nat) {b:List Nat} (last:Bool) (h:b.length≤65535):stoS pos b last=stoP pos b last:=by
 unfold stoS
 rw [stoC,if_pos h]
def SMid (P0:List (Nat × Nat)) (bs:List Nat) (last:Bool) (a:Nat) (P:List (Nat × Nat)):Prop:=
 ∃ f,bs.length-a<f∧P++stoC f (wid P) (bs.drop a) last=P0++stoS (wid P0) bs last∧wid P≤wid P0+9*a
theorem SMid.start (P0:List (Nat × Nat)) (bs:List Nat) (last:Bool):SMid P0 bs last 0 P0:=⟨bs.length+1,by omega,rfl,by omega⟩
theorem SMid.more {P0 P:List (Nat × Nat)} {bs:List Nat} {last:Bool} {a:Nat} (h:SMid P0 bs last a P) (hl:65535<bs.length-a):SMid P0 bs last (a+65535) (P++stoP (wid P) ((bs.drop a).take 65535) false):=by
 obtain ⟨f,h1,h2,h3⟩:=h
 obtain ⟨f,rfl⟩:∃ f',f=f'+1:=⟨f-1,by omega⟩
 have hw:=stoP_wid (wid P) ((bs.drop a).take 65535) false
 have hu:=up8_ge (wid P+3)
 have hln:((bs.drop a).take 65535).length=65535:=by rw [List.length_take,List.length_drop];omega
 rw [hln] at hw
 refine ⟨f,by omega,?_,by rw [wid_app];omega⟩
 rw [←h2,stoC,if_neg (by rw [List.length_drop];omega),List.append_assoc,wid_app,List.drop_drop]
theorem SMid.end_ {P0 P:List (Nat × Nat)} {bs:List Nat} {last:Bool} {a:Nat} (h:SMid P0 bs last a P) (hl:bs.length-a≤65535):P++stoP (wid P) (bs.drop a) last=P0++stoS (wid P0) bs last:=by
 obtain ⟨f,h1,h2,h3⟩:=h
 obtain ⟨f,rfl⟩:∃ f',f=f'+1:=⟨f-1,by omega⟩
 rw [←h2,stoC,if_pos (by rw [List.length_drop];omega)]
section
variable {w:World} {base pw pk:Nat} {g:Option Nat} {P:List (Nat × Nat)}
theorem Wq.alignP (h:Wq w base pw g P) (hn:wid P≤6000000000) :
  Calls Tryz.prog 69 #[.pointer (some ⟨pw,0,none⟩)] w fun e w'=>e = .returned (.tuple #[])∧Pq w base pw g (P++[(0,up8 (wid P)-wid P)]) w':=by
 refine (Wr.align h (by omega) _ rfl).mono ?_
 rintro e w' ⟨rfl,hp⟩
 refine ⟨rfl,?_⟩
 unfold Pq
 have hu:=up8_ge (wid P)
 rw [val_app,wid_app,(val_one _ _).1,(val_one _ _).2,Nat.mul_zero,Nat.add_zero,show wid P+(up8 (wid P)-wid P)=up8 (wid P) by omega]
 exact hp
theorem Wq.rawP (h:Wq w base pw g P) (hn:wid P≤6000000000) (h8:wid P%8=0) {v:Value} {ys:List Nat} (hs:BySl w v ys) (hy:Bs ys) (hl:ys.length≤1000000) :
  Calls Tryz.prog 71 #[.pointer (some ⟨pw,0,none⟩),v] w fun e w'=>e = .returned (.tuple #[])∧Pq w base pw g (P++ys.map fun x=>(x,8)) w':=by
 have hu:up8 (wid P)=wid P:=by unfold up8;omega
 refine (Wr.raw h hs hy (by omega) hl _ _ rfl rfl).mono ?_
 rintro e w' ⟨rfl,hp⟩
 refine ⟨rfl,?_⟩
 unfold Pq
 rw [val_app,wid_app,val_bytes,wid_bytes]
 rw [hu,Nat.mul_comm (num ys)] at hp
 exact hp
end
theorem BySl.put {w w1:World} {base pw:Nat} {g:Option Nat} {P Q:List (Nat × Nat)} {v:Value} {xs:List Nat} (h:BySl w v xs) (hw:Wq w base pw g P) (hq:Pq w base pw g Q w1) (hlo:∀ k,v.ownBlock=some k→k<base):BySl w1 v xs:=by
 obtain ⟨_,_,ht,_⟩:=hq
 exact h.touch ht fun k hk hf=>by have:=(Wr.foot hw hf).1;have:=hlo k hk;omega
def Alive8 (Tb:World→Prop):Prop:=∀ w,Tb w→Calls Tryz.prog 9 #[] w fun e w'=>e = .returned (.bool true)∧Below w.heap.size w w'
theorem named_long {Tb:World→Prop} (A:Alive8 Tb) (ao:Option Addr) (L c:Nat) (level:Int) (w:World) (hT:Tb w) (hL:L≤9223372036854775807) (hl:1500<L) :
  Calls Tryz.prog 8 #[.slice ao L c,.int .i64 level] w fun e w'=>e = .returned (.bool true)∧Below w.heap.size w w':=by
 have HA:=Lib.hid (A w hT)
 clear hT A
 have hl':(1500:Int)<L:=by omega
 clear hl
 go_enter Tryz.func8,Tryz.ntmps8
 go_wp2_with fail
 refine HA.out.mono ?_
 rintro e w1 ⟨rfl,hb1⟩
 have HB:=Lib.hid hb1
 clear hb1
 go_wp2
 go_ret
 exact ⟨by simp,HB.out⟩
set_option maxHeartbeats 1600000 in
theorem named_walk {Tb:World→Prop} {D:List Nat→Nat→List Nat} {S:List Nat→List Nat} (P:Prg8 Tb D S) (A:Alive8 Tb) (ao:Option Addr) (c:Nat) (xs:List Nat) (level:Int) (w:World) (hT:Tb w) (h:BySl w (.slice ao xs.length c) xs) (hb:Bs xs) (hl:xs.length≤1500) :
  Calls Tryz.prog 8 #[.slice ao xs.length c,.int .i64 level] w fun e w'=>e = .returned (.bool true)∧Below w.heap.size w w':=by
 have HA:=Lib.hid (A w hT)
 have HP:=Lib.hid P
 have HT:=Lib.hid hT
 have HS:=Lib.hid h
 have HB:=Lib.hid hb
 have e1:(xs.length:Int)≤1500:=by omega
 have HL:Hid (xs.length≤5000):=Lib.hid (by omega)
 obtain ⟨p,hp⟩:∃ p,p=D xs (lv level):=⟨_,rfl⟩
 have HPE:=Lib.hid hp
 have hpl:p.length≤4000:=by rw [hp];have:=(P.back hb (by omega) (lv_le level)).1.2.1;omega
 have HPL:=Lib.hid (show p.length≤1000000000 by omega)
 clear hT h hb P A hp
 go_enter Tryz.func8,Tryz.ntmps8
 go_wp2_with fail
 refine HA.out.mono ?_
 rintro e w1 ⟨rfl,hb1⟩
 have B1:=Lib.hid hb1
 clear hb1
 go_wp2_with fail
 refine (HP.out.defl level (HP.out.keep HT.out B1.out) (HS.out.grow B1.out) HB.out HL.out).mono ?_
 rw [←HPE.out]
 intro e w2 hk
 obtain ⟨ao2,c2,rfl,hy2,hb2⟩:=hk.by
 have B2:=Lib.hid (B1.out.on hb2)
 have Y2:=Lib.hid hy2
 clear hk hy2 hb2 HA
 obtain ⟨n2,hn2⟩:∃ n,n=p.length:=⟨_,rfl⟩
 have HN:=Lib.hid hn2
 rw [←hn2] at Y2 hpl ⊢
 clear hn2
 go_wp2_with fail
 refine (HP.out.defl _ (HP.out.keep HT.out B2.out) (HS.out.grow B2.out) HB.out HL.out).mono ?_
 rw [lv_lv,←HPE.out]
 intro e w3 hk
 obtain ⟨ao3,c3,rfl,hy3,hb3⟩:=hk.by
 rw [←HN.out] at hy3 ⊢
 have B3:=Lib.hid (B2.out.on hb3)
 have Y3:=Lib.hid hy3
 have Z3:=Lib.hid (Y2.out.grow hb3)
 clear hk hy3 hb3
 go_wp2_with fail
 refine (same_any Z3.out Y3.out HPL.out).mono ?_
 rintro e w4 ⟨he,nq,hw4⟩
 rw [decide_eq_true rfl] at he
 subst he
 have hb4:=below_drewN (Below.refl w3.heap.size w3) nq
 rw [←hw4] at hb4
 have B4:=Lib.hid (B3.out.on hb4)
 have Z4:=Lib.hid (Z3.out.grow hb4)
 clear hw4 hb4
 go_wp2_with fail
 refine (HP.out.defl level (HP.out.keep HT.out B4.out) (HS.out.grow B4.out) HB.out HL.out).mono ?_
 rw [←HPE.out]
 intro e w5 hk
 obtain ⟨ao5,c5,rfl,hy5,hb5⟩:=hk.by
 rw [←HN.out] at hy5 ⊢
 have B5:=Lib.hid (B4.out.on hb5)
 have Y5:=Lib.hid hy5
 have Z5:=Lib.hid (Z4.out.grow hb5)
 clear hk hy5 hb5
 go_wp2_with fail
 refine (same_any Y5.out Z5.out HPL.out).mono ?_
 rintro e w6 ⟨he,nq,rfl⟩
 rw [decide_eq_true rfl] at he
 subst he
 go_wp2
 go_ret
 exact ⟨rfl,below_drewN B5.out _⟩
theorem twice_long {Tb:World→Prop} (A:Alive8 Tb) (ao:Option Addr) (L c:Nat) (first second:Int) (w:World) (hT:Tb w) (hL:L≤9223372036854775807) (hl:1500<L) :
  Calls Tryz.prog 7 #[.slice ao L c,.int .i64 first,.int .i64 second] w fun e w'=>e = .returned (.bool true)∧Below w.heap.size w w':=by
 have HA:=Lib.hid (A w hT)
 clear hT A
 have hl':(1500:Int)<L:=by omega
 clear hl
 go_enter Tryz.func7,Tryz.ntmps7
 go_wp2_with fail
 refine HA.out.mono ?_
 rintro e w1 ⟨rfl,hb1⟩
 have HB:=Lib.hid hb1
 clear hb1
 go_wp2
 go_ret
 exact ⟨by simp,HB.out⟩
set_option maxHeartbeats 1600000 in
theorem twice_walk {Tb:World→Prop} {D:List Nat→Nat→List Nat} {S:List Nat→List Nat} (P:Prg8 Tb D S) (A:Alive8 Tb) (ao:Option Addr) (c:Nat) (xs:List Nat) (first second:Int) (w:World) (hT:Tb w) (h:BySl w (.slice ao xs.length c) xs) (hb:Bs xs) (hl:xs.length≤1500) :
  Calls Tryz.prog 7 #[.slice ao xs.length c,.int .i64 first,.int .i64 second] w fun e w'=>e = .returned (.bool true)∧Below w.heap.size w w':=by
 have HA:=Lib.hid (A w hT)
 have HP:=Lib.hid P
 have HT:=Lib.hid hT
 have HS:=Lib.hid h
 have HB:=Lib.hid hb
 have e1:(xs.length:Int)≤1500:=by omega
 have HL:Hid (xs.length≤5000):=Lib.hid (by omega)
 obtain ⟨p,hp⟩:∃ p,p=D xs (lv first):=⟨_,rfl⟩
 have HPE:=Lib.hid hp
 obtain ⟨⟨hpb,hpl,a1,s1,l1,hi1,hu1,hj1⟩,hj2⟩:=P.back hb (by omega) (lv_le first)
 rw [←hp] at hpb hpl hi1 hu1
 have hpl4:p.length≤4000:=by omega
 obtain ⟨q,hq⟩:∃ q,q=D p (lv second):=⟨_,rfl⟩
 have HQE:=Lib.hid hq
 obtain ⟨⟨hqb,hql,a2,s2,l2,hi2,hu2,hj3⟩,hj4⟩:=P.back hpb (by omega) (lv_le second)
 rw [←hq] at hqb hql hi2 hu2
 have hql4:q.length≤9000:=by omega
 have HPP:=Lib.hid (show Bs p∧p.length≤5000∧p.length≤1000000000∧p.length≤100000 from ⟨hpb,by omega,by omega,by omega⟩)
 have HQQ:=Lib.hid (show Bs q∧q.length≤100000 from ⟨hqb,by omega⟩)
 have HI1:=Lib.hid hi1
 have HI2:=Lib.hid hi2
 have hx9:xs.length≤1000000000:=by omega
 have HX9:=Lib.hid hx9
 clear hT h hb P A hp hq hpb hpl hi1 hu1 hqb hql hi2 hu2 hx9 hj1 hj2 hj3 hj4
 go_enter Tryz.func7,Tryz.ntmps7
 go_wp2_with fail
 refine HA.out.mono ?_
 rintro e w1 ⟨rfl,hb1⟩
 have B1:=Lib.hid hb1
 clear hb1
 go_wp2_with fail
 refine (HP.out.defl first (HP.out.keep HT.out B1.out) (HS.out.grow B1.out) HB.out HL.out).mono ?_
 rw [←HPE.out]
 intro e w2 hk
 obtain ⟨ao2,c2,rfl,hy2,hb2⟩:=hk.by
 have B2:=Lib.hid (B1.out.on hb2)
 have Y2:=Lib.hid hy2
 clear hk hy2 hb2 HA
 go_wp2_with fail
 refine (HP.out.defl second (HP.out.keep HT.out B2.out) Y2.out HPP.out.1 HPP.out.2.1).mono ?_
 rw [←HQE.out]
 intro e w3 hk
 obtain ⟨ao3,c3,rfl,hy3,hb3⟩:=hk.by
 have B3:=Lib.hid (B2.out.on hb3)
 have Y3:=Lib.hid hy3
 have Z3:=Lib.hid (Y2.out.grow hb3)
 clear hk hy3 hb3
 go_wp2_with fail
 refine (Inflate_ok (limit:=(p.length:Int)) Y3.out HQQ.out.1 HQQ.out.2 (by omega) (HP.out.tab (HP.out.keep HT.out B3.out)) HI2.out rfl rfl).mono ?_
 rintro e w4 ⟨ao4,c4,rfl,bel4,an4⟩
 have B4:=Lib.hid ((B3.out.on bel4).more (Nat.le_refl _) (.cells #[.slice ao4 p.length c4,.int .i64 ((a2+7)/8:Nat),.int .i64 (s2:Nat),.int .i64 (l2:Nat)] 27))
 have Z4:=Lib.hid ((Z3.out.grow bel4).grow (Below.more (Below.refl w4.heap.size w4) (Nat.le_refl _) (.cells #[.slice ao4 p.length c4,.int .i64 ((a2+7)/8:Nat),.int .i64 (s2:Nat),.int .i64 (l2:Nat)] 27)))
 have A4:=Lib.hid an4
 obtain ⟨k0,k1,k2,k3⟩:=an4.c
 clear bel4 an4
 go_wp2_with fail
 refine (same_any A4.out.by Z4.out HPP.out.2.2.1).mono ?_
 rintro e w6 ⟨he,nq,hw6⟩
 rw [decide_eq_true rfl] at he
 subst he
 have hb6:=below_drewN (Below.refl (box4 w4 (.slice ao4 p.length c4) ((a2+7)/8) s2 l2).heap.size (box4 w4 (.slice ao4 p.length c4) ((a2+7)/8) s2 l2)) nq
 rw [←hw6] at hb6
 have B6:=Lib.hid (B4.out.on hb6)
 have A6:=Lib.hid (A4.out.below hb6)
 clear hw6 hb6 k0 k1 k2 k3 Z4 A4 B4
 obtain ⟨k0,k1,k2,k3⟩:=A6.out.c
 go_wp2_with fail
 refine (Inflate_ok (limit:=(xs.length:Int)) A6.out.by HPP.out.1 HPP.out.2.2.2 (by omega) (HP.out.tab (HP.out.keep HT.out B6.out)) HI1.out rfl rfl).mono ?_
 rintro e w7 ⟨ao7,c7,rfl,bel7,an7⟩
 have B7:=Lib.hid ((B6.out.on bel7).more (Nat.le_refl _) (.cells #[.slice ao7 xs.length c7,.int .i64 ((a1+7)/8:Nat),.int .i64 (s1:Nat),.int .i64 (l1:Nat)] 27))
 have A7:=Lib.hid an7
 clear bel7 k0 k1 k2 k3
 obtain ⟨k0,k1,k2,k3⟩:=an7.c
 clear an7
 go_wp2_with fail
 refine (same_any A7.out.by (HS.out.grow B7.out) HX9.out).mono ?_
 rintro e w8 ⟨he,nq,rfl⟩
 rw [decide_eq_true rfl] at he
 subst he
 go_wp2
 go_ret
 exact ⟨rfl,below_drewN B7.out _⟩
theorem zeros_by {W:World} {g n:Nat} (h:Blk W g 5 (va (n*1) (fun i=>(Value.int .u8 0).cells[i%(Value.int .u8 0).cells.size]!))):BySl W (.slice (some ⟨g,0,none⟩) n n) (List.replicate n 0):=by
 refine .inr ⟨⟨g,0,none⟩,n,by rw [List.length_replicate],by rw [List.length_replicate];exact Nat.le_refl _,fun j u hu=>?_⟩
 have hj:j<n:=by
  have:=(List.getElem?_eq_some_iff.1 hu).1
  simpa [u8s] using this
 rw [Addr.add_lit,Nat.zero_add,h.cell,va_at _ _ j (by omega)]
 have hc:(Value.int .u8 0).cells = #[.int .u8 0]:=rfl
 simp [u8s,hj] at hu
 rw [hc,←hu]
 simp [Nat.mod_one]
theorem is_one (w:World) (z:Int):IS (w.alloc (.cells #[.int .i64 z] 3)) (some ⟨w.heap.size,0,none⟩) [z]:=by
 refine .inr ⟨_,0,rfl,fun j hj=>?_⟩
 have:j=0:=by simp at hj;omega
 subst this
 rw [Nat.zero_add,(Blk.made w 3 _).cell];rfl
set_option maxHeartbeats 3200000 in
theorem alive8_any {Tb:World→Prop} {D:List Nat→Nat→List Nat} {S:List Nat→List Nat} (P:Prg8 Tb D S) (hSa:S [97]=[1,1,0,254,255,97]):Alive8 Tb:=by
 intro w hT
 have HP:=Lib.hid P
 have HT:=Lib.hid hT
 obtain ⟨xs,hxs⟩:∃ xs:List Nat,xs=List.replicate 1000 0:=⟨_,rfl⟩
 have hxl:xs.length=1000:=by rw [hxs,List.length_replicate]
 have HXL:=Lib.hid hxl
 have HXS:=Lib.hid hxs
 have hb:Bs xs:=fun x hx=>by rw [hxs] at hx;rw [List.eq_of_mem_replicate hx];decide
 have HB:=Lib.hid hb
 obtain ⟨p,hp⟩:∃ p,p=D xs (lv 6):=⟨_,rfl⟩
 have HPE:=Lib.hid hp
 obtain ⟨⟨hpb,hpl,a1,s1,l1,hi1,hu1,hj1⟩,hj2⟩:=P.back hb (by omega) (lv_le 6)
 rw [←hp] at hpb hpl hi1 hu1
 have hp100:p.length≤100:=by
  have:=P.few (c:=0) (n:=1000) (k:=lv 6) (by omega) (by omega) (by omega) (by decide) (by decide)
  rw [←hxs,←hp] at this
  omega
 have HPP:=Lib.hid (show Bs p∧p.length≤100000 from ⟨hpb,by omega⟩)
 have HI1:=Lib.hid (show infl p (1000:Int).toNat = .ok () ⟨a1,xs,s1,l1⟩ by rw [show (1000:Int).toNat=xs.length by rw [hxl];rfl];exact hi1)
 have HU1:=Lib.hid hu1
 have HSA:=Lib.hid hSa
 have hcv:=fun (w:World) (C:Array Value) (n c:Nat)=>Lib.run_convert_bytes_const (P:=Tryz.prog) w 22 5 C n c Tryz.underlying22 Tryz.underlying5
 clear P hT hb hp hpb hpl hi1 hu1 hj1 hj2 hxs hxl hSa
 go_enter Tryz.func9,Tryz.ntmps9
 go_wp2_with (refine wpList_make_z rfl 22 _ _ rfl 5 (.int .u8 0) 1 1 1000 Tryz.underlying22 (by kernel_rfl) _ _ 1000 1000 rfl rfl rfl rfl (by omega) (by omega) ?_;intro W1 hb1 ht1 hs1;have Y1:=Lib.hid (show BySl W1 _ xs from by rw [HXS.out];exact zeros_by hb1);have B1:=Lib.hid ht1.none_below;clear hb1 ht1 hs1)
 refine (HP.out.defl 6 (HP.out.keep HT.out B1.out) Y1.out HB.out (by rw [HXL.out];omega)).mono ?_
 rw [←HPE.out]
 intro e w2 hk
 obtain ⟨ao2,c2,rfl,hy2,hb2⟩:=hk.by
 have B2:=Lib.hid (B1.out.on hb2)
 have P2:=Lib.hid hy2
 have Y2:=Lib.hid (Y1.out.grow hb2)
 clear hk hy2 hb2 Y1 B1
 go_wp2_with fail
 refine (Inflate_ok (limit:=1000) P2.out HPP.out.1 HPP.out.2 (by omega) (HP.out.tab (HP.out.keep HT.out B2.out)) HI1.out HU1.out.symm HXL.out.symm).mono ?_
 rintro e w3 ⟨ao3,c3,rfl,bel3,an3⟩
 have g3:=Below.more (Below.refl w3.heap.size w3) (Nat.le_refl _) (.cells #[.slice ao3 1000 c3,.int .i64 (p.length:Nat),.int .i64 (s1:Nat),.int .i64 (l1:Nat)] 27)
 have B3:=Lib.hid ((B2.out.on bel3).on g3)
 have Y3:=Lib.hid ((Y2.out.grow bel3).grow g3)
 have A3:=Lib.hid an3
 clear bel3 an3 Y2 B2 P2 g3
 obtain ⟨q3,hq3⟩:∃ q3,q3=w3.heap.size:=⟨_,rfl⟩
 obtain ⟨W3,hW3⟩:∃ W3,W3=w3.alloc (.cells #[.slice ao3 1000 c3,.int .i64 (p.length:Nat),.int .i64 (s1:Nat),.int .i64 (l1:Nat)] 27):=⟨_,rfl⟩
 have A3':Hid (Ans W3 q3 w2.heap.size (.slice ao3 1000 c3) xs p.length s1 l1):=Lib.hid (by rw [hW3,hq3];exact A3.out)
 rw [←hW3] at B3 Y3
 clear A3
 go_upto_region 4 with fail
 rw [←hW3,←hq3]
 clear hW3 hq3
 have C3:=Lib.hid (Below.more (Below.refl W3.heap.size W3) (Nat.le_refl _) (.cells #[.int .i64 500] 3))
 go_wp2_with fail
 refine (HP.out.blks 6 (ao:=some ⟨W3.heap.size,0,none⟩) (c:=1) (zs:=[500]) (HP.out.keep HT.out (B3.out.on C3.out)) (Y3.out.grow C3.out) HB.out (by rw [HXL.out];omega) (is_one W3 500) (by decide)).mono ?_
 rintro e w4 ⟨out,hk,hob,hol,a2,s2,l2,hi2,hu2,hj⟩
 obtain ⟨ao4,c4,rfl,hy4,hb4⟩:=hk.by
 have B4:=Lib.hid ((B3.out.on C3.out).on hb4)
 have Y4:=Lib.hid ((Y3.out.grow C3.out).grow hb4)
 have A4:=Lib.hid ((A3'.out.below C3.out).below hb4)
 have P4:=Lib.hid hy4
 have HJ:Hid (2≤l2):=Lib.hid (by
  have:fr xs.length [500]=1:=by rw [HXL.out];decide
  omega)
 have HO:=Lib.hid (show Bs out∧out.length≤100000 from ⟨hob,by have:=HXL.out;omega⟩)
 have HI2:=Lib.hid (show infl out (1000:Int).toNat = .ok () ⟨a2,xs,s2,l2⟩ by rw [show (1000:Int).toNat=xs.length by rw [HXL.out];rfl];exact hi2)
 have HU2:=Lib.hid hu2
 clear hk hob hol hi2 hu2 hj hy4 hb4 B3 Y3 A3' C3
 go_wp2_with fail
 refine (Inflate_ok (limit:=1000) P4.out HO.out.1 HO.out.2 (by omega) (HP.out.tab (HP.out.keep HT.out B4.out)) HI2.out HU2.out.symm HXL.out.symm).mono ?_
 rintro e w5 ⟨ao5,c5,rfl,bel5,an5⟩
 have g5:=Below.more (Below.refl w5.heap.size w5) (Nat.le_refl _) (.cells #[.slice ao5 1000 c5,.int .i64 (out.length:Nat),.int .i64 (s2:Nat),.int .i64 (l2:Nat)] 27)
 have B5:=Lib.hid ((B4.out.on bel5).on g5)
 have Y5:=Lib.hid ((Y4.out.grow bel5).grow g5)
 have A5:=Lib.hid ((A4.out.below bel5).below g5)
 obtain ⟨q5,hq5⟩:∃ q5,q5=w5.heap.size:=⟨_,rfl⟩
 obtain ⟨W5,hW5⟩:∃ W5,W5=w5.alloc (.cells #[.slice ao5 1000 c5,.int .i64 (out.length:Nat),.int .i64 (s2:Nat),.int .i64 (l2:Nat)] 27):=⟨_,rfl⟩
 have E5:Hid (Ans W5 q5 w4.heap.size (.slice ao5 1000 c5) xs out.length s2 l2):=Lib.hid (by rw [hW5,hq5];exact an5)
 rw [←hW5] at B5 Y5 A5
 clear bel5 an5 g5 B4 Y4 A4 P4
 go_upto_region 5 with fail
 rw [←hW5,←hq5]
 clear hW5 hq5
 obtain ⟨k0,k1,k2,k3⟩:=A5.out.c
 obtain ⟨m0,m1,m2,m3⟩:=E5.out.c
 have hj2:(2:Int)≤l2:=by have:=HJ.out;omega
 have hp1:(p.length:Int)≤100:=by omega
 go_wp2_with fail
 refine (same_any A5.out.by Y5.out (by rw [HXL.out];omega)).mono ?_
 rintro e w6 ⟨he,nq,hw6⟩
 rw [decide_eq_true rfl] at he
 subst he
 have hb6:=below_drewN (Below.refl W5.heap.size W5) nq
 rw [←hw6] at hb6
 have B6:=Lib.hid (B5.out.on hb6)
 have n1:=(A5.out.below hb6).c.2.1
 have n3:=(E5.out.below hb6).c.2.2.2
 clear hw6 hb6 k0 k1 k2 k3 m0 m1 m2 m3 A5 E5 Y5 B5
 go_wp2_with fail
 have g6:=Below.more (Below.refl w6.heap.size w6) (Nat.le_refl _) (.cells #[.int .u8 97] 5 (1,2))
 have G6:=Lib.hid (B6.out.on g6)
 clear g6
 refine (HP.out.sto (bs:=[97]) (HP.out.keep HT.out G6.out) (by_text w6 [97] _ 1 w6.heap.size (1,2) rfl rfl rfl) (fun x hx=>by rw [List.mem_singleton.1 hx];decide) (by decide)).mono ?_
 rw [HSA.out]
 intro e w7 hk
 obtain ⟨ao7,c7,rfl,hy7,hb7⟩:=hk.by
 have B7:=Lib.hid (G6.out.on hb7)
 have Y7:=Lib.hid hy7
 clear hk hy7 hb7 G6 B6
 go_wp2_with fail
 have g7:=Below.more (Below.refl w7.heap.size w7) (Nat.le_refl _) (.cells #[.int .u8 1,.int .u8 1,.int .u8 0,.int .u8 254,.int .u8 255,.int .u8 97] 5)
 have G7:=Lib.hid (B7.out.on g7)
 have Z7:=Lib.hid (Y7.out.grow g7)
 clear g7
 refine (same_any Z7.out (by_lit w7 [1,1,0,254,255,97] #[.int .u8 1,.int .u8 1,.int .u8 0,.int .u8 254,.int .u8 255,.int .u8 97] 6 w7.heap.size rfl rfl rfl) (by decide)).mono ?_
 rintro e w8 ⟨he,nq,rfl⟩
 rw [decide_eq_true rfl] at he
 subst he
 have B8:=Lib.hid (below_drewN G7.out nq)
 generalize (w7.alloc (.cells #[.int .u8 1,.int .u8 1,.int .u8 0,.int .u8 254,.int .u8 255,.int .u8 97] 5)).drewN nq=w8 at B8 ⊢
 clear Y7 Z7 B7
 go_wp2_with fail
 refine (HP.out.bound w8 65536 (by omega)).mono ?_
 rintro e w9 ⟨rfl,hb9⟩
 have B9:=Lib.hid (B8.out.on hb9)
 rw [show bnd 65536=65546 by decide]
 clear hb9
 go_wp2
 go_ret
 exact ⟨rfl,B9.out⟩
end
end Go.Proofs.YtacpfpghokcdlaaGreatDoor
