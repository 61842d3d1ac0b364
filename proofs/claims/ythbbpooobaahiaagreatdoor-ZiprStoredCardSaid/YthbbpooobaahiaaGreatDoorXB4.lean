/- Part 4. -/
import Derived.Lib.SplitLaws
import Derived.Lib.ValidLaws
import Derived.Shelf.Slices.Clone
import Derived.Test.YthbbpooobaahiaaGreatDoorXB3
namespace Go.Proofs.YthbbpooobaahiaaGreatDoor
set_option maxRecDepth 100000
section
open Go.RowKit
set_option maxHeartbeats 800000 in
theorem New_form (ao:Option Addr) (c:Nat) (zs:List Int) (w:World) (h:IS w ao zs) (hv:Vd zs) (hm:32768<room (nat zs)) :
  Calls Tryz.prog 171 #[.slice ao zs.length c] w fun e w'=>e = .returned (.tuple #[.pointer none,.int .i64 10])∧Below w.heap.size w w':=by
 have HI:=Lib.hid h
 have HV:=Lib.hid hv
 have HL:Hid ((nat zs).length≤320):=Lib.hid (by rw [nat_len];exact hv.len)
 have hm':(32768:Int)<(room (nat zs):Nat):=by omega
 clear h hv
 go_enter Tryz.func171,Tryz.ntmps171
 go_wp2_with (first
  | (go_at_call 180;(refine (count_yes ao c zs _ HI.out HV.out).mono ?_);rintro e w1 ⟨rfl,hb1⟩;have HB1:=Lib.hid hb1;clear hb1)
  | (refine wpList_alloc_z rfl 237 rfl _ z61 ?_;intro W2 hb2 ht2 hs2;have HS2:=Lib.hid hs2;have HT2:=Lib.hid (HB1.out.trans ((ht2.below (Nat.le_refl _) (fun _ h=>h.elim)).mono HB1.out.size));clear hs2)
  | (refine wpList_store_row rfl 237 (.tmp 4) (.tmp 10) rfl rfl w1.heap.size rfl _ rfl 237 _ hb2 i61 (by simp only [va_size]) (ia_one 16 _) ?_;intro W3 hb3 ht3 hs3;have HS3:=Lib.hid hs3;have HT3:=Lib.hid (HT2.out.trans (ht3.below (B:=w.heap.size) HT2.out.size (fun k hk=>by have:=HB1.out.size;omega)));clear hs3)
  | (refine wpList_load_row rfl 237 (.tmp 4) rfl w1.heap.size rfl 237 _ hb3 16 3 Tryz.underlying237 i61 ?_)
  | (go_at_call 181;(refine (room_any (nat zs) HL.out _).mono ?_);rintro e w4 ⟨rfl,hb4⟩;have HT4:=Lib.hid (HT3.out.trans (hb4.mono HT3.out.size));clear hb4))
 go_ret2
 exact ⟨rfl,HT4.out⟩
theorem b68 (f g:Nat→Nat):∀ W,(Instr.build 239 #[(3,.agg (il g).toArray),(2,.agg (il f).toArray)]).run Tryz.prog W = .ok (.agg (cc (.slice none 0 0) (.slice none 0 0) f g)) W:=fun W=>by
 kernel_rfl
theorem run_build2 {a:Act} {o:Oper} (t:TypeId) (i j:Nat) (x y:Operand) (vx vy V:Value) (ho:o.op = .build t #[(i,x),(j,y)]) (hx:a.eval x=vx) (hy:a.eval y=vy)
  (hz:∀ W,(Instr.build t #[(i,vx),(j,vy)]).run Tryz.prog W = .ok V W) (W:World):(execOp a.eval o).run Tryz.prog W = .ok (.value V) W:=by
 unfold execOp
 simp only [ho,hx,hy,List.map_toArray,List.map_cons,List.map_nil,Sem.run_bind,hz,Result.andThen_ok,Sem.run_pure]
theorem step_box_row {ops:Array Oper} {o:Oper} {a:Act} {w:World} {K:Act→World→Prop} {Q:Exit→Act→World→Prop} {E:Prop}
  (hg:o.guard=none) (t:TypeId) (x:Operand) (ho:o.op = .box t x) (z:Array Value) (hx:a.eval x = .agg z)
  (h:∀ W,Blk W w.heap.size t z→Touch (fun _=>False) w W→W.heap.size=w.heap.size+1→K (a.put o.dst (.pointer (some ⟨w.heap.size,0,none⟩))) W) :
  if Region.wanted o (yielded ops a.tmps)=true then Oper.wp Tryz.prog o a w K Q else E:=by
 have hw:Region.wanted o (yielded ops a.tmps)=true:=by simp [Region.wanted,hg]
 rw [if_pos hw]
 have hr:(Instr.box t (.agg z)).run Tryz.prog w = .ok (.pointer (some ⟨w.heap.size,0,none⟩)) (w.alloc (.cells z t)):=by
  simp [Instr.box,newVar,newRow,Value.cells,go_sem]
 unfold Oper.wp execOp
 simp only [ho,hx,Sem.run_bind,Sem.run_pure,hr,Result.andThen_ok]
 exact h _ (Blk.made w t z) ((Touch.refl _ w).alloc _) (by simp)
theorem firsts_il (ls:List Nat) (H:Ok ls) (w:World) :
  Calls Tryz.prog 182 #[.agg (il (cn ls)).toArray] w fun e w'=>e = .returned (.agg (il (fc ls)).toArray)∧Below w.heap.size w w':=firsts_any ls H w
theorem range_below {w w':World} {b o:Nat} {cs:List Value} (h:w.rangeAt b o cs) (hb:Below w.heap.size w w'):w'.rangeAt b o cs:=fun j v hv=>by
 have:=h j v hv
 exact (hb.cell (World.block_lt_of_cell? w _ this)).trans this
theorem IS.lt {w:World} {ao:Option Addr} {zs:List Int} (h:IS w ao zs):∀ b off,ao=some ⟨b,off,none⟩→zs≠[]→b<w.heap.size:=by
 intro b off e hx
 rcases h with h0 | ⟨b',off',rfl,hc⟩
 ·exact absurd h0 hx
 ·have e:=Option.some.inj e
  simp only [Addr.mk.injEq] at e
  rw [←e.1]
  exact World.block_lt_of_cell? w _ (hc 0 (by cases zs with | nil=>exact absurd rfl hx | cons=>simp))
def NewTo (w:World) (ls:List Nat) (e:Ending) (w':World):Prop:=∃ p,e = .returned (.tuple #[.pointer (some ⟨p,0,none⟩),.int .i64 0])∧CodeAt w' p ls∧Below w.heap.size w w'
set_option maxHeartbeats 1600000 in
theorem New_ok (ao:Option Addr) (c:Nat) (zs:List Int) (w:World) (h:IS w ao zs) (hv:Vd zs) (hm:room (nat zs)≤32768) :
  Calls Tryz.prog 171 #[.slice ao zs.length c] w (NewTo w (nat zs)):=by
 have HI:=Lib.hid h
 have HV:=Lib.hid hv
 have HO:Hid (Ok (nat zs)):=Lib.hid ⟨by rw [nat_len];exact hv.len,fun x hx=>by
  obtain ⟨z,hz,rfl⟩:=List.mem_map.1 hx
  have:=hv.all z hz
  omega,hm⟩
 have hm':decide ((32768:Int)<(room (nat zs):Nat))=false:=by simp;omega
 clear h hv
 go_enter Tryz.func171,Tryz.ntmps171
 go_upto_region 6 with (first
  | (go_at_call 180;(refine (count_yes ao c zs _ HI.out HV.out).mono ?_);rintro e w1 ⟨rfl,hb1⟩;have HB1:=Lib.hid hb1;clear hb1)
  | (refine wpList_alloc_z rfl 237 rfl _ z61 ?_;intro W2 hb2 ht2 hs2;have HS2:=Lib.hid hs2;have HT2:=Lib.hid (HB1.out.trans ((ht2.below (Nat.le_refl _) (fun _ h=>h.elim)).mono HB1.out.size));clear hs2)
  | (refine wpList_store_row rfl 237 (.tmp 4) (.tmp 10) rfl rfl w1.heap.size rfl _ rfl 237 _ hb2 i61 (by simp only [va_size]) (ia_one 16 _) ?_;intro W3 hb3 ht3 hs3;have HS3:=Lib.hid hs3;have HT3:=Lib.hid (HT2.out.trans (ht3.below (B:=w.heap.size) HT2.out.size (fun k hk=>by have:=HB1.out.size;omega)));clear hs3)
  | (refine wpList_load_row rfl 237 (.tmp 4) rfl w1.heap.size rfl 237 _ hb3 16 3 Tryz.underlying237 i61 ?_)
  | (go_at_call 181;(refine (room_any (nat zs) HO.out.len _).mono ?_);rintro e w4 ⟨rfl,hb4⟩;have HT4:=Lib.hid (HT3.out.trans (hb4.mono HT3.out.size));have HB4:=Lib.hid (hb3.below hb4);clear hb4))
 obtain ⟨q,hq⟩:∃ q,q=w1.heap.size:=⟨_,rfl⟩
 rw [←hq]
 rw [←hq] at HB4
 clear hq HB1 hb2 ht2 HS2 HT2 hb3 ht3 HS3 HT3
 have hr:=ia_r HB4.out
 refine wp_region_held_drew (S:=fun w'=>w'.rangeAt q 0 (il (cn (nat zs)))) (by kernel_rfl) hr (fun hHeld=>?_)
 refine wpAnyH_take (i:=0) (oi:={ dst:=some 17,op:=Op.load 237 (Operand.tmp 4),type:=237,pos := "huff.go:54",after := #[],guard:=none }) rfl (by kernel_rfl) (by kernel_rfl) (by kernel_rfl) (fun _ _ _ h=>h) (yieldsIf_load_mid rfl 237 _ rfl q 0 rfl (il (cn (nat zs))) _ (fun _ h=>h) Tryz.underlying237 rfl (il_i _)) hHeld ?_
 simp only [Act.put,List.setIfInBounds_toArray,List.set_cons_zero,List.set_cons_succ]
 refine wpAnyH_take (i:=1) (oi:={ dst:=some 18,op:=Op.load 237 (Operand.tmp 4),type:=237,pos := "huff.go:54",after := #[],guard:=none }) rfl (by kernel_rfl) (by kernel_rfl) (by kernel_rfl) (fun _ _ _ h=>h) (yieldsIf_load_mid rfl 237 _ rfl q 0 rfl (il (cn (nat zs))) _ (fun _ h=>h) Tryz.underlying237 rfl (il_i _)) hHeld ?_
 simp only [Act.put,List.setIfInBounds_toArray,List.set_cons_zero,List.set_cons_succ]
 refine wpAnyH_ready (rs:=[2]) (by kernel_rfl) (by simp) ?_
 refine AllReadyH.cons (o:={ dst:=some 19,op:=Op.call { callee:=Callee.value (Operand.func 182),args := #[Operand.tmp 18],argTypes := #[237] },type:=237,pos := "huff.go:54",after := #[{ on:=1,ground:=Ground.data }],guard:=none }) rfl (fun K hK=>?_) AllReadyH.nil
 go_wp2_with (first | (go_at_call 182;(refine (firsts_il (nat zs) HO.out _).mono ?_);rintro e w5 ⟨rfl,hb5⟩;have HB5:=Lib.hid hb5;clear hb5))
 refine hK.out _ _ (range_below (w:=w4.drew) hHeld HB5.out) (fun hHeld2=>?_)
 clear hK K
 have HBD:=Lib.hid (b68 (fc (nat zs)) (cn (nat zs)))
 refine wpAnyH_take (i:=3) (v := .agg (cc (.slice none 0 0) (.slice none 0 0) (fc (nat zs)) (cn (nat zs)))) (oi:={ dst:=some 20,op:=Op.build 239 #[(3,Operand.tmp 17),(2,Operand.tmp 19)],type:=239,pos := "huff.go:54",after := #[{ on:=0,ground:=Ground.data },{ on:=2,ground:=Ground.data }],guard:=none }) rfl (by kernel_rfl) (by kernel_rfl) (by kernel_rfl) (fun _ _ _ h=>h) (Or.inl ⟨by rfl,fun W _=>run_build2 239 3 2 (.tmp 17) (.tmp 19) (.agg (il (cn (nat zs))).toArray) (.agg (il (fc (nat zs))).toArray) _ rfl rfl rfl HBD.out W⟩) hHeld2 ?_
 simp only [Act.put,List.setIfInBounds_toArray,List.set_cons_zero,List.set_cons_succ]
 refine wpAnyH_ready (rs:=[4]) (by kernel_rfl) (by simp) ?_
 refine AllReadyH.cons (o:={ dst:=some 21,op:=Op.box 239 (Operand.tmp 20),type:=201,pos := "huff.go:54",after := #[{ on:=3,ground:=Ground.data }],guard:=none }) rfl (fun K hK=>?_) AllReadyH.nil
 refine step_box_row rfl 239 (.tmp 20) rfl _ rfl ?_
 intro W6 hb6 ht6 hs6
 refine hK.out _ _ (range_below hHeld2 (ht6.below (Nat.le_refl _) (fun _ h=>h.elim))) (fun hHeld3=>?_)
 clear hK K
 simp only [Act.put,List.setIfInBounds_toArray,List.set_cons_zero,List.set_cons_succ]
 refine wpAnyH_take (i:=5) (v := .pointer (some ⟨w5.heap.size,0,none⟩)) (oi:={ dst:=some 6,op:=Op.assign (Operand.tmp 21),type:=201,pos := "huff.go:54",after := #[{ on:=4,ground:=Ground.data },{ on:=2,ground:=Ground.chain },{ on:=0,ground:=Ground.phase },{ on:=1,ground:=Ground.phase },{ on:=2,ground:=Ground.phase },{ on:=3,ground:=Ground.phase },{ on:=4,ground:=Ground.phase }],guard:=none }) rfl (by kernel_rfl) (by kernel_rfl) (by kernel_rfl) (fun _ _ _ h=>h) (Or.inl ⟨by rfl,fun W _=>by go_simp⟩) hHeld3 ?_
 simp only [Act.put,List.setIfInBounds_toArray,List.set_cons_zero,List.set_cons_succ]
 refine wpAnyH_done (by kernel_rfl) ?_ _
 clear hHeld hHeld2 hHeld3 hr
 obtain ⟨pc,hpc⟩:∃ pc,pc=w5.heap.size:=⟨_,rfl⟩
 rw [←hpc]
 rw [←hpc] at hb6
 have hlo:w.heap.size≤pc:=by
  have h1:=HT4.out.size
  have h2:w4.heap.size≤w5.heap.size:=HB5.out.size
  omega
 have HT6:Hid (Below w.heap.size w W6):=Lib.hid ((below_drew HT4.out).trans ((HB5.out.trans ((ht6.below (Nat.le_refl _) (fun _ h=>h.elim)).mono HB5.out.size)).mono HT4.out.size))
 have HB6:=Lib.hid hb6
 have HS6:=Lib.hid hs6
 clear hb6 ht6 hs6 hpc HBD HB5 HB4 HT4
 go_wp2_with (first | (go_at_call 183;(refine (give_any ao c zs (nat zs) _ pc (HI.out.below HT6.out) HO.out (nat_len zs) (fun k hk=>(HV.out.ln hk).1) HB6.out (fun b off e hx hb=>by have:=HI.out.lt b off e hx;omega)).mono ?_);rintro e w7 ⟨rfl,hc7,ht7⟩;have HC7:=Lib.hid hc7;have HT7:=Lib.hid ht7;clear hc7 ht7))
 go_ret2
 exact ⟨pc,rfl,HC7.out,HT6.out.trans (HT7.out.below HT6.out.size (fun k hk=>by omega))⟩
theorem Symbols_any (p:Nat) (ls:List Nat) (w:World) (h:CodeAt w p ls) :
  Calls Tryz.prog 159 #[.pointer (some ⟨p,0,none⟩)] w fun e w'=>e = .returned (.int .i64 (many ls:Nat))∧w=w':=by
 obtain ⟨_,gw,go,F,h1,_⟩:=h
 have hc:=(h1.cell 1).trans (cc_1 _ _ _ _)
 clear h1
 go_enter Tryz.func159,Tryz.ntmps159
 go_wp2
 go_ret
 exact ⟨rfl,rfl⟩
theorem ret_bool {a b:Bool} (h:a=b):Ending.returned (.bool a) = .returned (.bool b):=by rw [h]
theorem Complete_any (p:Nat) (ls:List Nat) (w:World) (h:CodeAt w p ls) :
  Calls Tryz.prog 172 #[.pointer (some ⟨p,0,none⟩)] w fun e w'=>e = .returned (.bool (decide (room ls=32768)))∧Below w.heap.size w w':=by
 have HO:=Lib.hid h.ok
 obtain ⟨_,gw,go,F,h1,_⟩:=h
 have HC:=Lib.hid h1
 clear h1
 have HD:Hid (((room ls:Int) == 32768)=decide (room ls=32768)):=Lib.hid (by rw [Bool.eq_iff_iff];simp;omega)
 go_enter Tryz.func172,Tryz.ntmps172
 go_wp2_with (first
  | (refine wpList_load_il rfl (.tmp 5) rfl p 18 rfl (cn ls) (cc_rg HC.out) ?_)
  | (go_at_call 181;(refine (room_any ls HO.out.len _).mono ?_);rintro e w2 ⟨rfl,hb2⟩;have HB2:=Lib.hid hb2;clear hb2))
 go_ret
 exact ⟨ret_bool HD.out,HB2.out⟩
def FindTo (ls:List Nat) (A:Nat) (w:World) (e:Ending) (w':World):Prop:=
 ((∃ s:Nat,Beg ls A s∧e = .returned (.tuple #[.int .i64 s,.int .i64 (ln ls s:Nat)]))∨(room ls≤A∧e = .returned (.tuple #[.int .i64 0,.int .i64 0])))∧∃ nq,w'=w.drewN nq
theorem shr15 (A n:Nat) (_hn:n≤15):(A:Int)/2^(15-n)=((A/2^(15-n):Nat):Int):=by simp
theorem sp_one (ls:List Nat):sp ls 1=0:=by simp [sp,cn]
theorem fp_one (ls:List Nat):fp ls 1=0:=by simp [fp,cn]
set_option maxHeartbeats 1600000 in
theorem find_any (p A:Nat) (ls:List Nat) (w:World) (h:CodeAt w p ls) (hA:A<32768) :
  Calls Tryz.prog 176 #[.pointer (some ⟨p,0,none⟩),.int .i64 A] w (FindTo ls A w):=by
 have HO:=Lib.hid h.ok
 have hll:=h.ok.len
 have HC:=Lib.hid h
 clear h
 go_enter Tryz.func176,Tryz.ntmps176
 go_wp2
 go_loopw [6,7] (fun sv i wr=>∃ n q:Nat,1≤n∧n≤16∧i = .int .i64 n∧sv = .int .i64 (fp ls n:Nat)∧sp ls n≤A∧wr=w.drewN q) (fun _ i _=>16-(intOf i).toNat)
 case atStart=>exact ⟨1,0,by omega,by omega,rfl,by rw [fp_one];rfl,by rw [sp_one];omega,rfl⟩
 case round=>
  obtain ⟨n,q,hn1,hn,rfl,rfl,hsp,rfl⟩:=hrel
  by_cases hlt:n≤15
  ·have hnn:(n:Int)≤15:=by omega
   obtain ⟨_,gw,go,F,h1,h2,h3,h4⟩:=HC.out
   have g0:=(h1.cell 1).trans (cc_1 _ _ _ _)
   have g1:=(h1.cell (2+n)).trans (cc_f _ _ _ _ n (by omega))
   have g2:=(h1.cell (18+n)).trans (cc_g _ _ _ _ n (by omega))
   have H3:=Lib.hid h3
   have H4:=Lib.hid h4
   clear h1 h2 h3 h4
   have hge:=over_ge hlt hsp
   have hol:=over_lt (ls:=ls) (A:=A) hlt
   have b1:=fc_le HO.out n hlt
   have b2:=cn_le ls n
   have b3:=fp_le ls hll n
   have b4:A/2^(15-n)≤A:=Nat.div_le_self _ _
   have e1:IntKind.i64.wrap (15-(n:Int))=((15-n:Nat):Int):=by rw [IntKind.wrap_i64];omega
   have e2:=shr15 A n hlt
   obtain ⟨D,hD⟩:∃ D,D=A/2^(15-n):=⟨_,rfl⟩
   obtain ⟨f,hf⟩:∃ f,f=fc ls n:=⟨_,rfl⟩
   obtain ⟨g,hg⟩:∃ g,g=cn ls n:=⟨_,rfl⟩
   obtain ⟨y,hy⟩:∃ y,y=fp ls n:=⟨_,rfl⟩
   rw [←hD] at hge hol b4 e2
   rw [←hf] at hge hol b1 g1
   rw [←hg] at hol b2 g2
   rw [←hy] at b3
   rw [←hy]
   have HD:=Lib.hid hD
   have HF:=Lib.hid hf
   have HG:=Lib.hid hg
   have HY:=Lib.hid hy
   have HOL:=Lib.hid hol
   clear hD hf hg hy hol
   have e3:IntKind.i64.wrap ((D:Int)-f)=((D-f:Nat):Int):=by rw [IntKind.wrap_i64];omega
   have e4:(n:Int)<16:=by omega
   obtain ⟨o,ho⟩:∃ o,o=D-f:=⟨_,rfl⟩
   rw [←ho] at e3
   have HOo:=Lib.hid ho
   have bo:o<32768:=by omega
   clear ho
   by_cases hit:o<g
   ·obtain ⟨s,hs,hls,hrs⟩:=rank_all (ls:=ls) (n:=n) (r:=o) (by omega) (by rw [←HG.out];exact hit)
    have hl0:ln ls s≠0:=by omega
    have HB:Hid (Beg ls A s):=Lib.hid (over_sym (by omega) (by rw [←HF.out,←HD.out];exact hge) hls (by rw [hrs,←HF.out,←HD.out,HOo.out]))
    have hym:=fp_lt HO.out hl0
    have hcell:=(H3.out.cell (y+o)).trans (va_at _ _ (y+o) (by rw [HY.out];rw [hls,hrs] at hym;exact hym))
    rw [show F (y+o) = .int .i64 (s:Nat) by rw [HY.out,←hls,←hrs];rw [H4.out s hs hl0]] at hcell
    rw [hls,hrs,←HY.out] at hym
    have HLS:=Lib.hid hls
    clear hls hrs hl0 hs
    have hit':(o:Int)<g:=by omega
    have e5:(y:Int)+o<many ls:=by omega
    have e6:(0:Int)≤(y:Int)+o:=by omega
    have e7:((y:Int)+o).toNat=y+o:=by omega
    go_wp2
    go_quiet (fail)
    go_wp2
    go_ret2
    exact ⟨.inl ⟨s,HB.out,by rw [HLS.out];rfl⟩,_,rfl⟩
   ·have hit':decide ((o:Int)<g)=false:=by simp;omega
    have hit2:decide (o<g)=false:=by simpa using hit
    go_wp2
    go_quiet (fail)
    go_wp2
    go_roundw
    case rel=>exact ⟨n+1,_,by omega,by omega,by go_num,by rw [fp,←HY.out,←HG.out];go_num,by
     have h5:=HOL.out
     have h6:=HOo.out
     omega,rfl⟩
    case measure=>simp [intOf];omega
  ·have hn16:n=16:=by omega
   subst hn16
   go_wp2
   go_ret2
   exact ⟨.inr ⟨hsp,rfl⟩,_,rfl⟩
def ahead (bs:List Nat) (at_:Nat):Nat:=rv 15 (pk bs at_ 15)
theorem ahead_lt (bs:List Nat) (at_:Nat):ahead bs at_<32768:=rv_lt 15 _
theorem pk_lt (bs:List Nat) (at_ n:Nat):pk bs at_ n<2^n:=Nat.mod_lt _ (Nat.two_pow_pos n)
def Finds (p A:Nat) (ls:List Nat) (t m:Nat):Prop:=∀ W,CodeAt W p ls→Calls Tryz.prog 176 #[.pointer (some ⟨p,0,none⟩),.int .i64 A] W fun e w'=>e = .returned (.tuple #[.int .i64 t,.int .i64 m])∧∃ nq,w'=W.drewN nq
theorem finds_yes {p A:Nat} {ls:List Nat} (H:Ok ls) (hA:A<32768) {s:Nat} (hb:Beg ls A s):Finds p A ls s (ln ls s):=fun W hW=>(find_any p A ls W hW hA).mono fun e w' k=>by
 refine ⟨?_,k.2⟩
 rcases k.1 with ⟨t,ht,he⟩ | ⟨hro,_⟩
 ·obtain rfl:=beg_one H hb ht
  exact he
 ·exact absurd hb (none_of H hro s)
theorem finds_no {p A:Nat} {ls:List Nat} (H:Ok ls) (hA:A<32768) (hr:room ls≤A):Finds p A ls 0 0:=fun W hW=>(find_any p A ls W hW hA).mono fun e w' k=>by
 refine ⟨?_,k.2⟩
 rcases k.1 with ⟨t,ht,_⟩ | ⟨_,he⟩
 ·exact absurd ht (none_of H hr t)
 ·exact he
theorem finds_some {p A:Nat} {ls:List Nat} (H:Ok ls) (hA:A<32768):(∃ s,Beg ls A s∧Finds p A ls s (ln ls s))∨(room ls≤A∧Finds p A ls 0 0):=by
 by_cases hr:room ls≤A
 ·exact .inr ⟨hr,finds_no H hA hr⟩
 ·left
  have key:∀ n,n≤16→A<sp ls n→∃ s,Beg ls A s:=by
   intro n
   induction n with
   | zero=>intro _ h;simp [sp] at h
   | succ n ih=>
    intro hn h
    by_cases h1:A<sp ls n
    ·exact ih (by omega) h1
    ·have hge:=over_ge (ls:=ls) (A:=A) (n:=n) (by omega) (by omega)
     have hlt:=(over_lt (ls:=ls) (A:=A) (n:=n) (by omega)).2 h
     have hn0:n≠0:=by
      intro e
      subst e
      rw [sp_one] at h
      omega
     obtain ⟨s,_,hls,hrs⟩:=rank_all (ls:=ls) (n:=n) (r:=A/2^(15-n)-fc ls n) hn0 (by omega)
     exact ⟨s,over_sym hn0 hge hls hrs⟩
  obtain ⟨s,hs⟩:=key 16 (Nat.le_refl _) (by unfold room at hr;omega)
  exact ⟨s,hs,finds_yes H hA hs⟩
end
structure Sta where
 at_:Nat
 out:List Nat
 steps:Nat
 blocks:Nat
inductive Res (α : Type) where
 | bad (e:Nat)
 | ok (a : α) (s:Sta)
section
variable {α β γ : Type}
def Res.bind (r:Res α) (k : α → Sta→Res β):Res β :=
 match r with
 | .bad e => .bad e
 | .ok a s=>k a s
theorem Res.bind_ok {a : α} {s:Sta} {k : α → Sta→Res β}:(Res.ok a s).bind k=k a s:=rfl
theorem Res.bind_bad {e:Nat} {k : α → Sta→Res β}:(Res.bad e:Res α).bind k = .bad e:=rfl
theorem Res.bind_is {r:Res α} {k : α → Sta→Res β} {b : β} {t:Sta} (h:r.bind k = .ok b t):∃ a s,r = .ok a s∧k a s = .ok b t:=by
 cases r with
 | bad e=>cases h
 | ok a s=>exact ⟨a,s,rfl,h⟩
def iter (f : α → Sta→Res (Bool × α)):Nat → α → Sta→Res α
 | 0,_,_ => .bad 0
 | n+1,a,s=>(f a s).bind fun x s'=>if x.1 then .ok x.2 s' else iter f n x.2 s'
def run (L:Nat) (f : α → Sta→Res (Bool × α)) (a : α) (s:Sta):Res α := iter f (L+1-s.at_) a s
def Takes (L:Nat) (f : α → Sta→Res (Bool × α)):Prop:=∀ a s x s',s.at_≤L→f a s = .ok x s'→s.at_<s'.at_∧s'.at_≤L
theorem iter_more {L:Nat} {f : α → Sta→Res (Bool × α)} (hf:Takes L f):∀ m n a s,s.at_≤L→L+1-s.at_≤m→L+1-s.at_≤n→iter f m a s=iter f n a s:=by
 intro m
 induction m with
 | zero=>intro n a s h1 h2;omega
 | succ m ih=>
  intro n a s h1 h2 h3
  obtain ⟨k,rfl⟩:∃ k,n=k+1:=⟨n-1,by omega⟩
  unfold iter
  cases hx:f a s with
  | bad e=>rfl
  | ok x s'=>
   obtain ⟨h4,h5⟩:=hf a s x s' h1 hx
   simp only [Res.bind_ok]
   split
   ·rfl
   ·exact ih k x.2 s' h5 (by omega) (by omega)
theorem run_eq {L:Nat} {f : α → Sta→Res (Bool × α)} (hf:Takes L f) (a : α) {s:Sta} (hs:s.at_≤L):run L f a s=(f a s).bind fun x s'=>if x.1 then .ok x.2 s' else run L f x.2 s':=by
 unfold run
 rw [show L+1-s.at_=(L-s.at_)+1 by omega,iter]
 cases hx:f a s with
 | bad e=>rfl
 | ok x s'=>
  obtain ⟨h4,h5⟩:=hf a s x s' hs hx
  simp only [Res.bind_ok]
  split
  ·rfl
  ·exact iter_more hf _ _ _ _ h5 (by omega) (by omega)
structure Le (L lim:Nat) (s s':Sta):Prop where
 at_:s.at_≤s'.at_
 end_:s'.at_≤L
 out:s.out.length≤s'.out.length
 lim_:s.out.length≤lim→s'.out.length≤lim
 steps:s'.steps+s.at_≤s.steps+s'.at_
 blocks:s'.blocks+s.at_≤s.blocks+s'.at_
 bytes:Bs s.out→Bs s'.out
theorem Le.refl {L:Nat} (lim:Nat) {s:Sta} (h:s.at_≤L):Le L lim s s:=⟨Nat.le_refl _,h,Nat.le_refl _,id,Nat.le_refl _,Nat.le_refl _,id⟩
theorem Le.trans {L lim:Nat} {a b c:Sta} (h:Le L lim a b) (k:Le L lim b c):Le L lim a c:=by
 have:=h.at_;have:=h.out;have:=h.steps;have:=h.blocks;have:=k.at_;have:=k.out;have:=k.steps;have:=k.blocks
 exact ⟨by omega,k.end_,by omega,fun x=>k.lim_ (h.lim_ x),by omega,by omega,fun x=>k.bytes (h.bytes x)⟩
theorem Le.to {L lim:Nat} {s:Sta} {a:Nat} (h:s.at_≤a) (hL:a≤L):Le L lim s { s with at_:=a }:=
 ⟨h,hL,Nat.le_refl _,id,by show s.steps+s.at_≤s.steps+a;omega,by show s.blocks+s.at_≤s.blocks+a;omega,id⟩
def Pr (L lim:Nat) (f:Sta→Res α):Prop:=∀ s a s',s.at_≤L→f s = .ok a s'→Le L lim s s'
theorem Pr.run {L lim:Nat} {f : α → Sta→Res (Bool × α)} (hf:Takes L f) (h:∀ a,Pr L lim (f a)) (a : α):Pr L lim (run L f a):=by
 have key:∀ n s a b t,L-s.at_≤n→s.at_≤L→YthbbpooobaahiaaGreatDoor.run L f a s = .ok b t→Le L lim s t:=by
  intro n
  induction n with
  | zero=>
   intro s a b t hn hs hr
   rw [run_eq hf a hs] at hr
   obtain ⟨x,s',h1,h2⟩:=Res.bind_is hr
   have:=hf a s x s' hs h1
   omega
  | succ n ih=>
   intro s a b t hn hs hr
   rw [run_eq hf a hs] at hr
   obtain ⟨x,s',h1,h2⟩:=Res.bind_is hr
   have h3:=hf a s x s' hs h1
   have h4:=h a s x s' hs h1
   split at h2
   ·cases h2;exact h4
   ·exact h4.trans (ih s' x.2 b t (by omega) h3.2 h2)
 intro s b t hs hr
 exact key _ s a b t (Nat.le_refl _) hs hr
end
def rdN (bs:List Nat) (n:Nat) (s:Sta):Res Nat:=if s.at_+n≤8*bs.length then .ok (pk bs s.at_ n) { s with at_:=s.at_+n } else .bad 15
def findB (ls:List Nat) (A:Nat):Option Nat:=(List.range ls.length).find? fun s=>decide (ln ls s≠0∧A/2^(15-ln ls s)=cd ls s)
def rdS (bs ls:List Nat) (s:Sta):Res Nat:=
 if s.at_=8*bs.length then .bad 15
 else match findB ls (ahead bs s.at_) with
  | none => .bad 10
  | some y=>if s.at_+ln ls y≤8*bs.length then .ok y { s with at_:=s.at_+ln ls y } else .bad 15
def lenOf (y:Nat):Option (Nat × Nat):=
 if y<257∨285<y then none else if y=285 then some (258,0) else if y<261 then some (y-254,0) else some (3+(4+(y-257)%4)*2^((y-257)/4-1),(y-257)/4-1)
def disOf (d:Nat):Option (Nat × Nat):=
 if 29<d then none else if d<2 then some (1+d,0) else some (1+(2+d%2)*2^(d/2-1),d/2-1)
def grown (bs:List Nat) (o:Option (Nat × Nat)) (s:Sta):Res Nat:=
 match o with
 | none => .bad 10
 | some x=>(rdN bs x.2 s).bind fun v s' => .ok (x.1+v) s'
def back (far:Nat):Nat→List Nat→List Nat
 | 0,l=>l
 | n+1,l=>back far n (l++[l.getD (l.length-far) 0])
def again (bs:List Nat) (lim:Nat) (ol:List Nat) (y:Nat) (s:Sta):Res Unit:=
 (grown bs (lenOf y) s).bind fun n s1=>(rdS bs ol s1).bind fun d s2=>(grown bs (disOf d) s2).bind fun far s3=>
  if s3.out.length<far then .bad 10 else if lim<s3.out.length+n then .bad 14 else .ok () { s3 with out:=back far n s3.out }
def sym1 (bs:List Nat) (lim:Nat) (fl ol:List Nat) (_:Unit) (s:Sta):Res (Bool × Unit):=
 (rdS bs fl s).bind fun y s1=>
  if y<256 then (if lim<s1.out.length+1 then .bad 14 else .ok (false,()) { s1 with steps:=s1.steps+1,out:=s1.out++[y] })
  else if y=256 then .ok (true,()) { s1 with steps:=s1.steps+1 }
  else (again bs lim ol y { s1 with steps:=s1.steps+1 }).bind fun _ s2 => .ok (false,()) s2
def syms (bs:List Nat) (lim:Nat) (fl ol:List Nat) (s:Sta):Res Unit:=run (8*bs.length) (sym1 bs lim fl ol) () s
def stored (bs:List Nat) (lim:Nat) (s:Sta):Res Unit:=
 (rdN bs 16 { s with at_:=up8 s.at_ }).bind fun n s1=>(rdN bs 16 s1).bind fun m s2=>
  if m≠65535-n then .bad 10 else if 8*bs.length<s2.at_+8*n then .bad 15 else if lim<s2.out.length+n then .bad 14
  else .ok () { s2 with at_:=s2.at_+8*n,out:=s2.out++(bs.drop (s2.at_/8)).take n,steps:=s2.steps+n }
def xb (y:Nat):Nat:=if y=16 then 2 else if y=17 then 3 else if y=18 then 7 else 0
def itm (bs own:List Nat) (s:Sta):Res (Nat × Nat):=
 (rdS bs own s).bind fun y s1=>if 16≤y∧y≤18 then (rdN bs (xb y) s1).bind fun v s2 => .ok (y,v) s2 else .ok (y,0) s1
def told (y v:Nat) (row:List Nat):Option (List Nat):=
 if y<16 then some [y] else if y=16 then (if row=[] then none else some (List.replicate (3+v) (row.getLastD 0))) else if y=17 then some (List.replicate (3+v) 0) else if y=18 then some (List.replicate (11+v) 0) else none
def len1 (bs own:List Nat) (n:Nat) (row:List Nat) (s:Sta):Res (Bool × List Nat):=
 (itm bs own s).bind fun x s1=>
  match told x.1 x.2 row with
  | none => .bad 10
  | some t=>if n<(row++t).length then .bad 10 else .ok (decide ((row++t).length=n),row++t) s1
def lens (bs own:List Nat) (n:Nat) (s:Sta):Res (List Nat):=run (8*bs.length) (len1 bs own n) [] s
def ord:List Nat:=[16,17,18,0,8,7,9,6,10,5,11,4,12,3,13,2,14,1,15]
def ownOf (l:List Nat):List Nat:=(List.range 19).map fun j=>l.getD (ord.idxOf j) 0
def rdO (bs:List Nat):Nat→List Nat→Sta→Res (List Nat)
 | 0,l,s => .ok l s
 | k+1,l,s=>(rdN bs 3 s).bind fun v s'=>rdO bs k (l++[v]) s'
def whole (ls:List Nat):Bool:=decide (room ls=32768∨(many ls=1∧1∈ls))
def fits (row:List Nat) (l:Nat):Bool:=
 decide (room (row.take l)≤32768∧room (row.drop l)≤32768) && whole (row.take l) && (whole (row.drop l) || decide (many (row.drop l)=0))
def codes (bs:List Nat) (s:Sta):Res (List Nat × List Nat):=
 (rdN bs 5 s).bind fun l s1=>(rdN bs 5 s1).bind fun d s2=>(rdN bs 4 s2).bind fun c s3=>
  if 29<l∨29<d then .bad 10 else
  (rdO bs (4+c) [] s3).bind fun o s4=>
   if room (ownOf o)≠32768 then .bad 10 else
   (lens bs (ownOf o) (258+l+d) s4).bind fun row s5=>
    if row.getD 256 0=0 then .bad 10 else
    if fits row (257+l) then .ok (row.take (257+l),row.drop (257+l)) s5 else .bad 10
def fixF:List Nat:=List.replicate 144 8++List.replicate 112 9++List.replicate 24 7++List.replicate 8 8
def fixO:List Nat:=List.replicate 32 5
def blk (bs:List Nat) (lim:Nat) (s:Sta):Res Unit:=
 (rdN bs 2 s).bind fun k s1=>
  if k=0 then stored bs lim s1 else if k=1 then syms bs lim fixF fixO s1 else if k=2 then (codes bs s1).bind fun c s2=>syms bs lim c.1 c.2 s2 else .bad 10
def blk1 (bs:List Nat) (lim:Nat) (_:Unit) (s:Sta):Res (Bool × Unit):=
 (rdN bs 1 s).bind fun last s1=>(blk bs lim s1).bind fun _ s2 => .ok (decide (last=1),()) { s2 with blocks:=s2.blocks+1 }
def st0:Sta:=⟨0,[],0,0⟩
def infl (bs:List Nat) (lim:Nat):Res Unit:=run (8*bs.length) (blk1 bs lim) () st0
end Go.Proofs.YthbbpooobaahiaaGreatDoor
namespace Go.Proofs.YthbbpooobaahiaaGreatDoor.Zz
set_option maxRecDepth 100000
def txt (l:List Nat):ByteArray:=⟨(l.map UInt8.ofNat).toArray⟩
def lowU (c:UInt8):UInt8:=if 65≤c.toNat∧c.toNat≤90 then UInt8.ofNat (c.toNat+32) else c
def foldT (s:ByteArray):ByteArray:=⟨(s.data.toList.map lowU).toArray⟩
def parts:List UInt8→List (List UInt8)
 | []=>[[]]
 | c::r=>match parts r with
  | []=>[[c]]
  | p::ps=>if c=47 then []::p::ps else (c::p)::ps
def badPart (last:Bool) (p:List UInt8):Bool:=p == [46] || p == [46,46] || (!last && p == [])
def badParts:List (List UInt8)→Bool
 | []=>false
 | [p]=>badPart true p
 | p::q::r=>badPart false p || badParts (q::r)
def badByte (wide:Bool) (c:Nat):Bool:=decide (c<32) || c == 127 || c == 92 || (decide (127<c) && !wide)
def nameF (s:ByteArray) (wide:Bool):Bool:=
 decide (s.size=0) || decide (255<s.size) || (wide && !Lib.validD s.data.toList) || (s.data.toList.any fun c=>badByte wide c.toNat) || badParts (parts s.data.toList)
theorem parts_ne (l:List UInt8):∃ p ps,parts l=p::ps:=by
 cases l with
 | nil=>exact ⟨_,_,rfl⟩
 | cons c r=>
  rw [parts]
  cases parts r with
  | nil=>exact ⟨_,_,rfl⟩
  | cons p ps=>
   by_cases h:c=47
   ·exact ⟨[],p::ps,by simp [h]⟩
   ·exact ⟨c::p,ps,by simp [h]⟩
theorem index_cons_ne (b c:UInt8) (l:List UInt8) (h:b≠c):Lib.index (b::l) [c]=if Lib.index l [c] == -1 then -1 else Lib.index l [c]+1:=by
 have hp:([c]:List UInt8).isPrefixOf (b::l)=false:=by simp [List.isPrefixOf,Ne.symm h]
 rw [Lib.index,hp];simp
theorem index_cons_eq (c:UInt8) (l:List UInt8):Lib.index (c::l) [c]=0:=by
 rw [Lib.index];simp [List.isPrefixOf]
theorem index_ge (c:UInt8):∀ l:List UInt8,Lib.index l [c] = -1∨∃ i:Nat,Lib.index l [c]=i
 | [] => .inl (by simp [Lib.index])
 | b::l=>by
  by_cases h:b=c
  ·subst h;exact .inr ⟨0,by rw [index_cons_eq];rfl⟩
  ·rw [index_cons_ne b c l h]
   rcases index_ge c l with hi | ⟨i,hi⟩
   ·left;rw [hi];rfl
   ·right;exact ⟨i+1,by rw [hi,if_neg (by simp)];omega⟩
theorem splitK_parts:∀ l:List UInt8,Lib.splitK [47] 0 (l.count 47) l=parts l
 | []=>rfl
 | b::l=>by
  have ih:=splitK_parts l
  obtain ⟨p,ps,hp⟩:=parts_ne l
  by_cases h:b=47
  ·subst h
   rw [List.count_cons_self,Lib.splitK,index_cons_eq,if_neg (by decide),parts,hp]
   simp only [Int.toNat_zero,Nat.zero_add,List.take_zero,List.length_cons,List.length_nil,List.drop_succ_cons,List.drop_zero,if_true]
   rw [ih,hp]
  ·rw [List.count_cons_of_ne h,parts,hp]
   simp only [if_neg h]
   rw [hp] at ih
   cases hk:l.count 47 with
   | zero=>
    rw [hk,Lib.splitK] at ih
    rw [Lib.splitK]
    obtain ⟨rfl,rfl⟩:=List.cons.inj ih
    rfl
   | succ k=>
    rw [hk,Lib.splitK] at ih
    rw [Lib.splitK,index_cons_ne b 47 l h]
    rcases index_ge 47 l with hi | ⟨i,hi⟩
    ·rw [hi] at ih ⊢
     rw [if_pos (by rfl)] at ih
     obtain ⟨rfl,rfl⟩:=List.cons.inj ih
     rfl
    ·rw [hi] at ih ⊢
     rw [if_neg (by simp)] at ih
     rw [if_neg (by simp;omega),if_neg (by simp)]
     obtain ⟨h1,h2⟩:=List.cons.inj ih
     have e1:((i:Int)+1).toNat=i+1:=by omega
     have e2:((i:Int)).toNat=i:=by omega
     rw [e2] at h1 h2
     rw [e1]
     simp only [List.length_cons,List.length_nil,Nat.add_zero,Nat.zero_add] at h1 h2 ⊢
     rw [List.take_succ_cons,h1,show i+1+1=(i+1)+1 from rfl,List.drop_succ_cons,h2]
theorem splitB_parts (s:ByteArray):(Lib.splitB ⟨#[47]⟩ 0 (Lib.countB s ⟨#[47]⟩) s).map (·.data.toList)=parts s.data.toList:=by
 rw [Lib.splitB_data]
 show Lib.splitK [47] 0 (Lib.count s.data.toList [47]) s.data.toList=_
 rw [Lib.count_one,splitK_parts]
def restF (wide:Bool):List UInt8→List UInt8→Bool
 | p,[]=>p == [46] || p == [46,46]
 | p,c::r=>badByte wide c.toNat || (if c=47 then (p == [] || p == [46] || p == [46,46]) || restF wide [] r else restF wide (p++[c]) r)
def glue (p:List UInt8):List (List UInt8)→List (List UInt8)
 | []=>[]
 | q::qs=>(p++q)::qs
theorem restF_parts (wide:Bool):∀ (l p:List UInt8),restF wide p l=((l.any fun c=>badByte wide c.toNat) || badParts (glue p (parts l)))
 | [],p=>by simp [restF,parts,glue,badParts,badPart]
 | c::r,p=>by
  obtain ⟨q,qs,hq⟩:=parts_ne r
  rw [restF,List.any_cons,parts,hq]
  by_cases h:c=47
  ·have ih:=restF_parts wide r []
   rw [hq] at ih
   rw [if_pos h,ih]
   simp only [if_pos h]
   simp only [glue,List.nil_append,List.append_nil,badParts,badPart,Bool.not_false,Bool.true_and]
   cases badByte wide c.toNat <;> cases (r.any fun c=>badByte wide c.toNat) <;> cases p == [] <;> cases p == [46] <;> cases p == [46,46] <;> simp
  ·have ih:=restF_parts wide r (p++[c])
   rw [hq] at ih
   rw [if_neg h,ih]
   simp only [if_neg h,glue,List.append_assoc,List.singleton_append]
   cases badByte wide c.toNat <;> simp
def uSum:Nat→List Nat→Option Nat
 | v,[]=>some v
 | v,b::r=>if b<128∨191<b then none else uSum (v*64+b-128) r
def uLead (c:Nat):Nat × Nat × Nat:=
 if 194≤c∧c≤223 then (2,c-192,128) else if 224≤c∧c≤239 then (3,c-224,2048) else if 240≤c∧c≤244 then (4,c-240,65536) else (0,0,0)
def uLen (l:List Nat):Nat:=
 if l.getD 0 0<128 then 1
 else if (uLead (l.getD 0 0)).1=0∨l.length<(uLead (l.getD 0 0)).1 then 0
 else match uSum (uLead (l.getD 0 0)).2.1 ((l.drop 1).take ((uLead (l.getD 0 0)).1-1)) with
  | none=>0
  | some v=>if v<(uLead (l.getD 0 0)).2.2∨1114111<v∨(55296≤v∧v≤57343) then 0 else (uLead (l.getD 0 0)).1
def nu2 (xs:List Nat) (p:Nat):Nat:=Cu.num ((xs.drop p).take 2)
def nu4 (xs:List Nat) (p:Nat):Nat:=Cu.num ((xs.drop p).take 4)
def endB (xs:List Nat):Nat→Option Nat
 | 0=>none
 | k+1=>if nu4 xs k=101010256∧k+22+nu2 xs (k+20)=xs.length then some k else endB xs k
def endP (xs:List Nat):Option Nat:=endB xs (xs.length-21)
structure Rw where
 name:ByteArray
 flags:Nat
 method:Nat
 time:Nat
 date:Nat
 packed:Nat
 plain:Nat
 at_:Nat
 extra:Nat
 sum:Nat
 remark:List Nat
def big:Nat:=4294967295
def fBad (f:Nat):Bool:=decide (bits .andNot .i64 (f:Int) 2062≠0)
def fWide (f:Nat):Bool:=decide (bits .and .i64 (f:Int) 2048≠0)
def fBehind (f:Nat):Bool:=decide (bits .and .i64 (f:Int) 8≠0)
def rowR (ys:List Nat) (p:Nat):Rw:=
 ⟨txt ((ys.drop (p+46)).take (nu2 ys (p+28))),nu2 ys (p+8),nu2 ys (p+10),nu2 ys (p+12),nu2 ys (p+14),nu4 ys (p+20),nu4 ys (p+24),nu4 ys (p+42),nu2 ys (p+30),nu4 ys (p+16),(ys.drop (p+46+nu2 ys (p+28)+nu2 ys (p+30))).take (nu2 ys (p+32))⟩
def rowZ (ys:List Nat) (p:Nat):Nat:=p+46+nu2 ys (p+28)+nu2 ys (p+30)+nu2 ys (p+32)
def rowE (ys:List Nat) (p:Nat):Nat:=
 if ys.length<p+46∨nu4 ys p≠33639248∨ys.length<rowZ ys p then 10
 else if nu2 ys (p+34)≠0∨(rowR ys p).packed=big∨(rowR ys p).plain=big∨(rowR ys p).at_=big∨fBad (rowR ys p).flags=true∨((rowR ys p).method≠0∧(rowR ys p).method≠8) then 17
 else if nameF (rowR ys p).name (fWide (rowR ys p).flags)=true then 19 else 0
def endsSlash (s:ByteArray):Bool:=s.data.toList.getLast? == some 47
def foldL (s:ByteArray):List UInt8:=s.data.toList.map lowU
def rowE2 (acc:List (List UInt8)) (r:Rw):Nat:=
 if foldL r.name∈acc then 13
 else if (r.method=0∧r.packed≠r.plain)∨(endsSlash r.name=true∧r.plain≠0) then 10 else 0
def rowsP (ys:List Nat):Nat→Nat→List Rw→Except Nat (List Rw)
 | 0,p,acc=>if p=ys.length then .ok acc else .error 10
 | k+1,p,acc=>if rowE ys p≠0 then .error (rowE ys p)
  else if rowE2 (acc.map fun r=>foldL r.name) (rowR ys p)≠0 then .error (rowE2 (acc.map fun r=>foldL r.name) (rowR ys p))
  else rowsP ys k (rowZ ys p) (acc++[rowR ys p])
def endE (xs:List Nat) (e:Nat) (E:Int):Nat:=
 if nu2 xs (e+4)≠0∨nu2 xs (e+6)≠0∨nu2 xs (e+8)=65535∨nu2 xs (e+10)=65535∨nu4 xs (e+12)=big∨nu4 xs (e+16)=big then 17
 else if nu2 xs (e+8)≠nu2 xs (e+10)∨nu4 xs (e+16)+nu4 xs (e+12)≠e then 10
 else if max E 0<(nu2 xs (e+10):Int) then 14 else 0
def openP (xs:List Nat) (B E:Int):Except Nat (List Rw × Nat × Nat):=
 if max B 0<(xs.length:Int) then .error 14
 else match endP xs with
  | none => .error 10
  | some e=>if endE xs e E≠0 then .error (endE xs e E)
   else match rowsP (xs.take e) (nu2 xs (e+10)) (nu4 xs (e+16)) [] with
    | .error f => .error f
    | .ok l => .ok (l,nu4 xs (e+16),e)
structure Sp where
 head:Nat
 data:Nat
 behind:Nat
 extra:Nat
def sumsAt (ys:List Nat) (p:Nat) (r:Rw):Bool:=decide (p+12≤ys.length∧nu4 ys p=r.sum∧nu4 ys (p+4)=r.packed∧nu4 ys (p+8)=r.plain)
def spData (ys:List Nat) (r:Rw):Nat:=r.at_+30+nu2 ys (r.at_+26)+nu2 ys (r.at_+28)
def signed (ys:List Nat) (r:Rw) (tq:Nat):Bool:=decide (tq+4≤ys.length∧nu4 ys tq=134695760) && sumsAt ys (tq+4) r
def behindP (ys:List Nat) (r:Rw) (tq:Nat):Nat:=if signed ys r tq=true then tq+16 else tq+12
def spotE (ys:List Nat) (r:Rw):Nat:=
 if ys.length<r.at_+30∨nu4 ys r.at_≠67324752∨nu2 ys (r.at_+6)≠r.flags∨nu2 ys (r.at_+8)≠r.method∨ys.length<r.at_+30+r.name.size∨nu2 ys (r.at_+26)≠r.name.size∨txt ((ys.drop (r.at_+30)).take r.name.size)≠r.name∨ys.length<spData ys r ∨
  (sumsAt ys (r.at_+14) r=false∧¬(fBehind r.flags=true∧nu4 ys (r.at_+14)=0∧nu4 ys (r.at_+18)=0∧nu4 ys (r.at_+22)=0)) then 10
 else if ys.length<spData ys r+r.packed then 15
 else if fBehind r.flags=true∧signed ys r (spData ys r+r.packed)=false∧sumsAt ys (spData ys r+r.packed) r=false then 10 else 0
def spotS (ys:List Nat) (r:Rw):Sp:=⟨r.at_,spData ys r,if fBehind r.flags=true then behindP ys r (spData ys r+r.packed) else spData ys r+r.packed,nu2 ys (r.at_+28)⟩
def spotsE (ys:List Nat):List Rw→Nat
 | []=>0
 | r::t=>if spotE ys r≠0 then spotE ys r else spotsE ys t
def over (a b:Sp):Bool:=decide (a.head<b.behind∧b.head<a.behind)
def clashP:List Sp→Bool
 | []=>false
 | s::t=>t.any (over s) || clashP t
def cutP (ys:List Nat) (r:Rw):List Nat:=(ys.drop (spData ys r)).take r.packed
def dataP (ys:List Nat) (r:Rw) (left:Nat):Except Nat (List Nat):=
 if r.method=0 then if left<(cutP ys r).length then .error 14 else .ok (cutP ys r)
 else match infl (cutP ys r) left with
  | .bad e => .error e
  | .ok _ s=>if (s.at_+7)/8≠(cutP ys r).length then .error 10 else .ok s.out
def dataE (d:List Nat) (r:Rw):Nat:=if d.length≠r.plain then 10 else if (CrcPlain.updN 0#32 d).toNat≠r.sum then 16 else 0
def entsP (ys:List Nat):List Rw→Nat→Except Nat (List (List Nat))
 | [],_ => .ok []
 | r::t,left=>match dataP ys r left with
  | .error e => .error e
  | .ok d=>if dataE d r≠0 then .error (dataE d r) else match entsP ys t (left-d.length) with
   | .error e => .error e
   | .ok l => .ok (d::l)
def readP (xs:List Nat) (B E T:Int):Except Nat (List Rw × Nat × List (List Nat)):=
 match openP xs B E with
 | .error e => .error e
 | .ok (l,f,_)=>if spotsE (xs.take f) l≠0 then .error (spotsE (xs.take f) l)
  else if clashP (l.map (spotS (xs.take f)))=true then .error 18
  else match entsP (xs.take f) l T.toNat with
   | .error e => .error e
   | .ok d => .ok (l,f,d)
end Go.Proofs.YthbbpooobaahiaaGreatDoor.Zz
namespace Go.Proofs.YthbbpooobaahiaaGreatDoor.Cu
set_option maxRecDepth 100000
section
open Go.RowKit
theorem or_i64 (a b:Nat) (ha:a<9223372036854775808) (hb:b<9223372036854775808):bits BinOp.or IntKind.i64 (a:Int) (b:Int)=((a ||| b:Nat):Int):=by
 have hx:a ||| b<2^63:=Nat.or_lt_two_pow (by omega) (by omega)
 have h1:(BitVec.ofInt 64 (a:Int)).toNat=a:=by
  rw [BitVec.ofInt_natCast,BitVec.toNat_ofNat];exact Nat.mod_eq_of_lt (by omega)
 have h2:(BitVec.ofInt 64 (b:Int)).toNat=b:=by
  rw [BitVec.ofInt_natCast,BitVec.toNat_ofNat];exact Nat.mod_eq_of_lt (by omega)
 show IntKind.i64.wrap ((BitVec.ofInt 64 (a:Int) ||| BitVec.ofInt 64 (b:Int)).toNat:Int)=_
 rw [BitVec.toNat_or,h1,h2,IntKind.wrap_i64]
 omega
theorem take_next (l:List Nat) (k:Nat) (h:k<l.length):l.take (k+1)=l.take k++[l.getD k 0]:=by
 rw [List.take_add_one]
 simp [List.getD,h]
theorem num_step {xs:List Nat} {k x z:Nat} (hb:Bs xs) (hk:k<xs.length) (hl:xs.length≤4) (hx:x=xs.getD k 0) (hz:z=num (xs.take k)) :
  bits BinOp.or IntKind.i64 (z:Int) (wrap64 ((x:Int)*2^(8*k)))=((num (xs.take (k+1)):Nat):Int):=by
 have h1:z<256^k:=by
  have:=num_lt (hb.take k)
  rw [List.length_take,Nat.min_eq_left (by omega)] at this
  omega
 have h2:x<256:=by rw [hx];exact hb.at k
 rw [take_next xs k hk,num_app,←hx,←hz,List.length_take,Nat.min_eq_left (by omega)]
 have e256:(256:Nat)^k=2^(8*k):=by rw [Nat.pow_mul]
 have h3:num [x]=x:=by simp [num]
 rw [h3]
 have h4:x*2^(8*k)<4294967296∧256^k*x<4294967296∧z<4294967296:=by
  have p1:2^(8*k)≤2^24:=Nat.pow_le_pow_right (by omega) (by omega)
  have p2:(2:Nat)^24=16777216:=by decide
  rw [p2] at p1
  rw [e256] at ⊢
  rw [e256] at h1
  have p3:x*2^(8*k)≤255*16777216:=Nat.mul_le_mul (by omega) p1
  have p4:=Nat.mul_comm (2^(8*k)) x
  omega
 have h5:wrap64 ((x:Int)*2^(8*k))=((x*2^(8*k):Nat):Int):=by
  have:(x:Int)*2^(8*k)=((x*2^(8*k):Nat):Int):=by simp
  rw [this]
  unfold wrap64
  omega
 have q0:x*2^(8*k)<4294967296:=h4.1
 have q1:z<9223372036854775808:=Nat.lt_trans h4.2.2 (by decide)
 have q2:x*2^(8*k)<9223372036854775808:=Nat.lt_trans q0 (by decide)
 rw [e256] at h1
 have q4:=Nat.two_pow_add_eq_or_of_lt (i:=8*k) h1 x
 rw [h5,or_i64 _ _ q1 q2,e256]
 congr 1
 rw [Nat.or_comm,Nat.mul_comm x,←q4,Nat.add_comm]
set_option maxHeartbeats 400000 in
theorem number_any (ao:Option Addr) (c:Nat) (xs:List Nat) (w:World) (h:Sl w ao c xs) (hl:xs.length≤4) :
  Calls Tryz.prog 92 #[.slice ao xs.length c] w fun e w'=>e = .returned (.int .i64 (num xs:Nat))∧w=w':=by
 have HS:=Lib.hid h
 clear h
 go_enter Tryz.func92,Tryz.ntmps92
 go_wp2
 go_loop [3,8] (fun vn vi=>∃ k:Nat,k≤xs.length∧vi = .int .i64 k∧vn = .int .i64 (num (xs.take k):Nat)) (fun _ vi=>xs.length-(intOf vi).toNat)
 case atStart=>exact ⟨0,Nat.zero_le _,rfl,rfl⟩
 case round=>
  obtain ⟨k,hk,rfl,rfl⟩:=hrel
  by_cases hlt:k<xs.length
  ·have hkk:(k:Int)<xs.length:=by omega
   rcases HS.out.src with h0 | ⟨b,off,rfl,hc⟩
   ·rw [h0] at hlt;simp at hlt
   ·have hcell:=hc k hlt
    have hb:=HS.out.bs.at k
    clear hc
    obtain ⟨x,hx⟩:∃ x,x=xs.getD k 0:=⟨_,rfl⟩
    rw [←hx] at hcell hb
    have HX:=Lib.hid hx
    clear hx
    obtain ⟨z,hz⟩:∃ z,z=num (xs.take k):=⟨_,rfl⟩
    rw [←hz]
    have HN:=Lib.hid (num_step HS.out.bs hlt hl HX.out hz)
    clear hz
    go_wp2
    go_round
    case rel=>exact ⟨k+1,by omega,by go_num,by rw [HN.out]⟩
    case measure=>simp [intOf];omega
  ·have hk':k=xs.length:=by omega
   subst hk'
   rw [List.take_length]
   go_wp2
   go_ret
   exact ⟨rfl,rfl⟩
theorem clone_nil (c:Nat) (w:World) (n:Nat) :
  Calls Tryz.prog 71 #[.slice none n c] w fun e w'=>e = .returned (.slice none 0 0)∧w=w':=by
 have q22:∀ (w:World) (a:Option Addr) (n c n' c':Nat),(binOp .eql 22 (.slice a n c) (.slice none n' c')).run Tryz.prog w = .ok (.bool a.isNone) w:=fun w a n c n' c'=>Lib.run_eql_slice_nil w _ _ a n c n' c' Tryz.underlying22
 go_enter Tryz.func71,Tryz.ntmps71
 go_wp2
 go_ret
 exact ⟨rfl,rfl⟩
def Fresh (B:Nat) (w':World) (ao:Option Addr) (c:Nat) (xs:List Nat):Prop:=Sl w' ao c xs∧∀ ad,ao=some ad→B≤ad.block
def Cloned (xs:List Nat) (w:World) (e:Ending) (w':World):Prop:=∃ ao c,e = .returned (.slice ao xs.length c)∧Fresh w.heap.size w' ao c xs∧Below w.heap.size w w'
theorem clone_some (ad:Addr) (c:Nat) (xs:List Nat) (w:World) (h:Sl w (some ad) c xs) (hm:xs.length≤1000000000) :
  Calls Tryz.prog 71 #[.slice (some ad) xs.length c] w (Cloned xs w):=by
 have q22:∀ (w:World) (a:Option Addr) (n c n' c':Nat),(binOp .eql 22 (.slice a n c) (.slice none n' c')).run Tryz.prog w = .ok (.bool a.isNone) w:=fun w a n c n' c'=>Lib.run_eql_slice_nil w _ _ a n c n' c' Tryz.underlying22
 have HS:=Lib.hid (h.below ((Below.refl _ w).alloc (Nat.le_refl _) (.cells #[] 5)))
 have hbs:=h.bs
 clear h
 go_enter Tryz.func71,Tryz.ntmps71
 go_wp2_with (at_builtin;refine wpList_append_x at22 rfl (.tmp 5) (.tmp 6) rfl w.heap.size (.slice (some ⟨w.heap.size,0,none⟩) 0 0) (.slice (some ad) xs.length c) 0 xs.length [] (u8s xs) rfl rfl (own_empty w 5 1) HS.out.cells (by rw [u8s_len,Nat.mul_one]) (u8s_one xs) (by simp) (by omega) (by omega) ?c2)
 case c2=>
 intro ao c' w' hA
 have hA':Apd (w.alloc (.cells #[] 5)) w.heap.size 5 1 (.slice (some ⟨w.heap.size,0,none⟩) 0 0) xs.length (u8s xs) (.slice ao xs.length c') w':=by simpa using hA
 have hb:Below w.heap.size w w':=((Below.refl _ w).alloc (Nat.le_refl _) _).trans (hA'.below (own_empty w 5 1) (by simp))
 have hf:Fresh w.heap.size w' ao c' xs:=⟨own_sl hA'.own hbs,fun a ha=>by
  subst ha
  exact (hA'.own.lt a.block rfl).1⟩
 clear hA hA' HS
 go_wp2
 go_ret
 exact ⟨ao,c',rfl,hf,hb⟩
theorem clone_any (ao:Option Addr) (c:Nat) (xs:List Nat) (w:World) (h:Sl w ao c xs) (hm:xs.length≤1000000000) :
  Calls Tryz.prog 71 #[.slice ao xs.length c] w (Cloned xs w):=by
 cases ao with
 | none=>
  have h0:=h.nil rfl
  have h1:=h.le
  have hx:xs=[]:=List.eq_nil_of_length_eq_zero (by omega)
  subst hx
  exact (clone_nil c w 0).mono fun e w' ⟨he,hw⟩=>by subst hw;exact ⟨none,0,he,⟨Sl.none_ w,fun _ h=>by cases h⟩,Below.refl _ _⟩
 | some ad=>exact clone_some ad c xs w h hm
theorem shr_step (n:Int) (k:Nat):(n/2^(8*k))%256=n/256^k%256:=by
 rw [Int.pow_mul];rfl
theorem cells_one (w:World) (e:TypeId) (u:Value):CellsAt (w.alloc (.cells #[u] e)) (.slice (some ⟨w.heap.size,0,none⟩) 1 1) 1 [u]:=by
 refine .inr ⟨_,_,rfl,fun j v hv=>?_⟩
 have hj:j=0:=by
  have:=(List.getElem?_eq_some_iff.1 hv).1
  simp at this;omega
 subst hj
 rw [Addr.add_lit,World.cell?_alloc_at _ _ _ _ rfl]
 simpa using hv
def PutN (base:Nat) (v:Value) (xs:List Nat) (w:World) (e:Ending) (w':World):Prop:=∃ ao c,e = .returned (.slice ao xs.length c)∧Apd w base 5 1 v xs.length (u8s xs) (.slice ao xs.length c) w'
set_option maxHeartbeats 800000 in
theorem putn_any (n:Int) (size:Nat) (hsz:size≤4) (va:Option Addr) (vc:Nat) (base:Nat) (xs:List Nat) (w:World) (hown:w.ownsRow base 5 1 (.slice va xs.length vc) xs.length (u8s xs)) (hb:base≤w.heap.size) (hl:xs.length≤1000000000) :
  Calls Tryz.prog 64 #[.slice va xs.length vc,.int .i64 n,.int .i64 size] w (PutN base (.slice va xs.length vc) (xs++le n size) w):=by
 have HO:=Lib.hid hown
 clear hown
 obtain ⟨v,hv⟩:∃ v,v=Value.slice va xs.length vc:=⟨_,rfl⟩
 have HV:=Lib.hid hv
 rw [←hv]
 rw [←hv] at HO
 clear hv
 go_enter Tryz.func64,Tryz.ntmps64
 go_wp2
 go_loopw [0,9] (fun vv vi wr=>∃ (k:Nat) (ao:Option Addr) (c:Nat),k≤size∧vi = .int .i64 k∧vv = .slice ao (xs.length+k) c∧Apd w base 5 1 v (xs.length+k) (u8s (xs++le n k)) (.slice ao (xs.length+k) c) wr) (fun _ vi _=>size-(intOf vi).toNat)
 case atStart=>exact ⟨0,va,vc,Nat.zero_le _,rfl,HV.out,by
  have e:xs++le n 0=xs:=by simp [le]
  rw [e,Nat.add_zero,←HV.out]
  exact ⟨HO.out,Touch.refl _ _,fun k hk => .inl hk⟩⟩
 case round=>
  obtain ⟨k,ao,c,hk,rfl,rfl,hA⟩:=hrel
  have HA:=Lib.hid hA
  clear hA
  by_cases hlt:k<size
  ·have hkk:(k:Int)<size:=by omega
   go_wp2_with (at_builtin;refine wpList_append_x at22 rfl (.tmp 12) (.tmp 18) rfl base (.slice ao (xs.length+k) c) _ (xs.length+k) 1 (u8s (xs++le n k)) _ rfl rfl (ownsRow_below HA.out.own ((Below.refl _ _).alloc (Nat.le_refl _) _)) (cells_one _ _ _) rfl (by intro u hu;rw [List.mem_singleton] at hu;subst hu;rfl) (by have:=HA.out.touch.size;simp;omega) (by omega) (by omega) ?c2)
   case c2=>
   intro ao2 c2 w2 hA2
   have hA3:Apd wr base 5 1 (.slice ao (xs.length+k) c) (xs.length+(k+1)) (u8s (xs++le n (k+1))) (.slice ao2 (xs.length+(k+1)) c2) w2:=by
    have h3:=hA2.alloc
    rw [←Nat.add_assoc]
    have e:u8s (xs++le n (k+1))=u8s (xs++le n k)++[Value.int IntKind.u8 (n/256^k%256)]:=by
     have h0:0≤n/256^k%256:=Int.emod_nonneg _ (by omega)
     rw [le,←List.append_assoc,←u8s_app]
     simp [u8s,Int.toNat_of_nonneg h0]
    rw [e]
    rw [shr_step] at h3
    exact h3
   have HA3:=Lib.hid (HA.out.trans hA3)
   clear hA2 hA3
   rw [Nat.add_assoc]
   go_wp2
   go_roundw
   case rel=>exact ⟨k+1,ao2,c2,by omega,by go_num,rfl,HA3.out⟩
   case measure=>simp [intOf];omega
  ·have hk':k=size:=by omega
   subst hk'
   have hl:(xs++le n k).length=xs.length+k:=by rw [List.length_append,le_len]
   have hP:PutN base v (xs++le n k) w (.returned (.slice ao (xs.length+k) c)) wr:=⟨ao,c,by rw [hl],by rw [hl];exact HA.out⟩
   have HP:=Lib.hid hP
   clear hP hl
   go_wp2
   go_ret
   exact HP.out
theorem win_lt {xs:List Nat} (hb:Bs xs) (f n:Nat) (h:n≤4):num ((xs.drop f).take n)<4294967296:=by
 have h1:=num_lt ((hb.drop f).take n)
 have h2:((xs.drop f).take n).length≤4:=by rw [List.length_take];omega
 have h3:256^((xs.drop f).take n).length≤256^4:=Nat.pow_le_pow_right (by omega) h2
 have h4:(256:Nat)^4=4294967296:=by decide
 omega
theorem within_okI (ao:Option Addr) (len c at_ k:Nat) (K:Int) (hK:K=k) (w:World) (hc:len≤c) (hm:c≤maxLen) (h:at_+k≤len) :
  Calls Tryz.prog 91 #[.slice ao len c,.int .i64 at_,.int .i64 K] w fun e w'=>e = .returned (.tuple #[.slice (cutA ao c at_) k (c-at_),.bool true])∧w=w':=by
 subst hK;exact within_ok ao len c at_ k w hc hm h
set_option maxHeartbeats 400000 in
theorem u16_ok (ao:Option Addr) (c:Nat) (xs:List Nat) (at_:Nat) (w:World) (h:Sl w ao c xs) (hle:at_+2≤xs.length) :
  Calls Tryz.prog 66 #[.slice ao xs.length c,.int .i64 at_] w fun e w'=>e = .returned (.tuple #[.int .i64 (num ((xs.drop at_).take 2):Nat),.bool true])∧w=w':=by
 have K1:=Lib.hid (within_okI ao xs.length c at_ 2 2 rfl w h.le h.big hle)
 have K2:=number_any _ _ _ w (h.cut' at_ 2 hle) (by rw [win_len hle];omega)
 rw [win_len hle] at K2
 have K2:=Lib.hid K2
 obtain ⟨A,hA⟩:∃ A,A=cutA ao c at_:=⟨_,rfl⟩
 obtain ⟨z,hz⟩:∃ z,z=num ((xs.drop at_).take 2):=⟨_,rfl⟩
 rw [←hA] at K1 K2
 rw [←hz] at K2 ⊢
 clear hA hz h
 go_enter Tryz.func66,Tryz.ntmps66
 go_wp2_with (first
  | (go_at_call 91;(with_reducible refine K1.out.mono ?_);rintro e w' ⟨rfl,rfl⟩)
  | (go_at_call 92;(with_reducible refine K2.out.mono ?_);rintro e w' ⟨rfl,rfl⟩))
 go_ret2
 exact ⟨rfl,rfl⟩
set_option maxHeartbeats 400000 in
theorem u32_ok (ao:Option Addr) (c:Nat) (xs:List Nat) (at_:Nat) (w:World) (h:Sl w ao c xs) (hle:at_+4≤xs.length) :
  Calls Tryz.prog 65 #[.slice ao xs.length c,.int .i64 at_] w fun e w'=>e = .returned (.tuple #[.int .i64 (num ((xs.drop at_).take 4):Nat),.bool true])∧w=w':=by
 have K1:=Lib.hid (within_okI ao xs.length c at_ 4 4 rfl w h.le h.big hle)
 have K2:=number_any _ _ _ w (h.cut' at_ 4 hle) (by rw [win_len hle];omega)
 rw [win_len hle] at K2
 have K2:=Lib.hid K2
 obtain ⟨A,hA⟩:∃ A,A=cutA ao c at_:=⟨_,rfl⟩
 obtain ⟨z,hz⟩:∃ z,z=num ((xs.drop at_).take 4):=⟨_,rfl⟩
 rw [←hA] at K1 K2
 rw [←hz] at K2 ⊢
 clear hA hz h
 go_enter Tryz.func65,Tryz.ntmps65
 go_wp2_with (first
  | (go_at_call 91;(with_reducible refine K1.out.mono ?_);rintro e w' ⟨rfl,rfl⟩)
  | (go_at_call 92;(with_reducible refine K2.out.mono ?_);rintro e w' ⟨rfl,rfl⟩))
 go_ret2
 exact ⟨rfl,rfl⟩
theorem number_nil (w:World):Calls Tryz.prog 92 #[.slice none 0 0] w fun e w'=>e = .returned (.int .i64 0)∧w=w':=number_any none 0 [] w (Sl.none_ w) (by simp)
set_option maxHeartbeats 400000 in
theorem u32_no (ao:Option Addr) (c len:Nat) (at_:Int) (w:World) (hm:len≤maxLen) (h:at_<0∨(len:Int)-4<at_) :
  Calls Tryz.prog 65 #[.slice ao len c,.int .i64 at_] w fun e w'=>e = .returned (.tuple #[.int .i64 0,.bool false])∧w=w':=by
 have K1:=Lib.hid (within_no ao len c at_ 4 w hm (by omega))
 have K2:=Lib.hid (number_nil w)
 clear hm h
 go_enter Tryz.func65,Tryz.ntmps65
 go_wp2_with (first
  | (go_at_call 91;(with_reducible refine K1.out.mono ?_);rintro e w' ⟨rfl,rfl⟩)
  | (go_at_call 92;(with_reducible refine K2.out.mono ?_);rintro e w' ⟨rfl,rfl⟩))
 go_ret2
 exact ⟨rfl,rfl⟩
def CutOk (ys:List Nat) (w:World) (e:Ending) (w':World):Prop:=∃ ao c,e = .returned (.tuple #[.slice ao ys.length c,.bool true])∧Fresh w.heap.size w' ao c ys∧Below w.heap.size w w'
set_option maxHeartbeats 400000 in
theorem cut_ok (ao:Option Addr) (c:Nat) (xs:List Nat) (at_ n:Nat) (w:World) (h:Sl w ao c xs) (hle:at_+n≤xs.length) (hm:xs.length≤1000000000) :
  Calls Tryz.prog 73 #[.slice ao xs.length c,.int .i64 at_,.int .i64 n] w (CutOk ((xs.drop at_).take n) w):=by
 have K1:=within_ok ao xs.length c at_ n w h.le h.big hle
 have hl:=win_len hle
 have K2:=clone_any _ _ _ w (h.cut' at_ n hle) (by rw [hl];omega)
 obtain ⟨ys,hys⟩:∃ ys,ys=(xs.drop at_).take n:=⟨_,rfl⟩
 rw [←hys] at K2 hl ⊢
 subst hl
 have K1:=Lib.hid K1
 have K2:=Lib.hid K2
 obtain ⟨A,hA⟩:∃ A,A=cutA ao c at_:=⟨_,rfl⟩
 rw [←hA] at K1 K2
 clear hA hys h
 go_enter Tryz.func73,Tryz.ntmps73
 go_wp2_with (first
  | (go_at_call 91;(with_reducible refine K1.out.mono ?_);rintro e w' ⟨rfl,rfl⟩)
  | (go_at_call 71;(with_reducible refine K2.out.mono ?_);rintro e w2 ⟨ao2,c2,rfl,hF,hb2⟩;have HP:Hid (CutOk ys w (.returned (.tuple #[.slice ao2 ys.length c2,.bool true])) w2):=Lib.hid ⟨ao2,c2,rfl,hF,hb2⟩;clear hF hb2))
 go_ret2
 exact HP.out
set_option maxHeartbeats 400000 in
theorem cut_no (ao:Option Addr) (c len:Nat) (at_ n:Int) (w:World) (hm:len≤maxLen) (h:at_<0∨(len:Int)<at_∨n<0∨(len:Int)-at_<n) :
  Calls Tryz.prog 73 #[.slice ao len c,.int .i64 at_,.int .i64 n] w fun e w'=>e = .returned (.tuple #[.slice none 0 0,.bool false])∧w=w':=by
 have K1:=Lib.hid (within_no ao len c at_ n w hm h)
 have K2:=Lib.hid (clone_nil 0 w 0)
 clear hm h
 go_enter Tryz.func73,Tryz.ntmps73
 go_wp2_with (first
  | (go_at_call 91;(with_reducible refine K1.out.mono ?_);rintro e w' ⟨rfl,rfl⟩)
  | (go_at_call 71;(with_reducible refine K2.out.mono ?_);rintro e w' ⟨rfl,rfl⟩))
 go_ret2
 exact ⟨rfl,rfl⟩
def KSrc (w:World) (ao:Option Addr) (ks:List Int):Prop:=
 ks=[]∨∃ b off,ao=some ⟨b,off,none⟩∧∀ j,j<ks.length→w.cell? ⟨b,off+j,none⟩=some (.int .i64 (ks.getD j 0))
theorem KSrc.below {w w':World} {ao:Option Addr} {ks:List Int} (h:KSrc w ao ks) (hb:Below w.heap.size w w'):KSrc w' ao ks:=by
 rcases h with h | ⟨b,off,rfl,hc⟩
 ·exact .inl h
 ·exact .inr ⟨b,off,rfl,fun j hj=>by
   have:=hc j hj
   exact (hb.cell (World.block_lt_of_cell? w _ this)).trans this⟩
def cnt (ks:List Int):Nat:=(ks.filter fun k=>k == 2).length
theorem cnt_snoc (l:List Int) (k:Int):cnt (l++[k])=cnt l+if k=2 then 1 else 0:=by
 unfold cnt
 rw [List.filter_append,List.length_append]
 by_cases h:k=2 <;> simp [h]
theorem cnt_le (l:List Int):cnt l≤l.length:=List.length_filter_le _ _
theorem ktake_next (l:List Int) (k:Nat) (h:k<l.length):l.take (k+1)=l.take k++[l.getD k 0]:=by
 rw [List.take_add_one]
 simp [List.getD,h]
theorem cnt_step {ks:List Int} {k:Nat} (h:k<ks.length):cnt (ks.take (k+1))=cnt (ks.take k)+if ks.getD k 0=2 then 1 else 0:=by
 rw [ktake_next ks k h,cnt_snoc]
set_option maxHeartbeats 400000 in
theorem count_any (ao:Option Addr) (c:Nat) (ks:List Int) (w:World) (h:KSrc w ao ks) (hm:ks.length≤1000000) :
  Calls Tryz.prog 93 #[.slice ao ks.length c] w fun e w'=>e = .returned (.int .i64 (cnt ks:Nat))∧w=w':=by
 have HS:=Lib.hid h
 clear h
 go_enter Tryz.func93,Tryz.ntmps93
 go_wp2
 go_loop [3,8] (fun vn vi=>∃ k:Nat,k≤ks.length∧vi = .int .i64 k∧vn = .int .i64 (cnt (ks.take k):Nat)) (fun _ vi=>ks.length-(intOf vi).toNat)
 case atStart=>exact ⟨0,Nat.zero_le _,rfl,rfl⟩
 case round=>
  obtain ⟨k,hk,rfl,rfl⟩:=hrel
  by_cases hlt:k<ks.length
  ·have hkk:(k:Int)<ks.length:=by omega
   have hcl:cnt (ks.take k)≤1000000:=by
    have:=cnt_le (ks.take k)
    rw [List.length_take] at this
    omega
   have HN:=Lib.hid (cnt_step hlt)
   rcases HS.out with h0 | ⟨b,off,rfl,hc⟩
   ·rw [h0] at hlt;simp at hlt
   have hcell:=hc k hlt
   clear hc
   obtain ⟨x,hx⟩:∃ x,x=ks.getD k 0:=⟨_,rfl⟩
   obtain ⟨z,hz⟩:∃ z,z=cnt (ks.take k):=⟨_,rfl⟩
   rw [←hx] at hcell HN
   rw [←hz] at hcl HN ⊢
   clear hx hz
   by_cases h2:x=2
   ·subst h2
    go_wp2
    go_round
    case rel=>exact ⟨k+1,by omega,by go_num,by rw [HN.out,if_pos rfl];go_num⟩
    case measure=>simp [intOf];omega
   ·have HX:=Lib.hid h2
    go_wp2
    go_round
    case rel=>exact ⟨k+1,by omega,by go_num,by rw [HN.out,if_neg HX.out];go_num⟩
    case measure=>simp [intOf];omega
  ·have hk':k=ks.length:=by omega
   subst hk'
   rw [List.take_length]
   obtain ⟨z,hz⟩:∃ z,z=cnt ks:=⟨_,rfl⟩
   have HZ:=Lib.hid hz
   rw [←hz]
   clear hz
   go_wp2
   go_ret
   rw [←HZ.out]
   exact ⟨rfl,rfl⟩
def isN (k:Int):Bool:=k == 0 || k == 1
theorem isN_yes {k:Int} (h:isN k=true):k=0∨k=1:=by simpa [isN] using h
theorem isnum_any (k:Int) (w:World):Calls Tryz.prog 115 #[.int .i64 k] w fun e w'=>e = .returned (.bool (isN k))∧w=w':=by
 have h:Calls Tryz.prog 115 #[.int .i64 k] w fun e w'=>e = .returned (.bool (k == 0 || k == 1))∧w=w':=by
  go_enter Tryz.func115,Tryz.ntmps115
  go_wp2
  all_goals go_ret
  all_goals first | exact ⟨rfl,rfl⟩ | (have hk:k=0:=(by assumption);exact ⟨(by rw [hk];rfl),rfl⟩)
 exact h
structure Fd where
 k:Int
 n:Nat
 b:List Nat
structure Fe where
 f:Fd
 ao:Option Addr
 c:Nat
def Fe.cells (x:Fe):List Value:=[.int .i64 x.f.k,.int .i64 (x.f.n:Nat),.slice x.ao x.f.b.length x.c]
def fcells (l:List Fe):List Value:=l.flatMap Fe.cells
theorem fcells_app (a b:List Fe):fcells (a++b)=fcells a++fcells b:=by simp [fcells]
theorem fcells_one (x:Fe):fcells [x]=x.cells:=by simp [fcells]
theorem fcells_at:∀ (l:List Fe) (i j:Nat) (x:Fe),l[i]? = some x→j<3→(fcells l)[i*3+j]? = x.cells[j]?
 | [],i,j,x,h,_=>by simp at h
 | y::r,0,j,x,h,hj=>by
  simp only [List.getElem?_cons_zero,Option.some.injEq] at h
  subst h
  rw [fcells,List.flatMap_cons,Nat.zero_mul,Nat.zero_add,List.getElem?_append_left (by simp [Fe.cells];omega)]
 | y::r,i+1,j,x,h,hj=>by
  rw [fcells,List.flatMap_cons,List.getElem?_append_right (by simp [Fe.cells];omega)]
  have:=fcells_at r i j x (by simpa using h) hj
  rw [fcells] at this
  rw [←this]
  congr 1
  simp [Fe.cells];omega
def Fs (w:World) (ao:Option Addr) (l:List Fe):Prop:=
 (∀ x∈l,Sl w x.ao x.c x.f.b)∧(l=[]∨∃ g,ao=some ⟨g,0,none⟩∧∀ j u,(fcells l)[j]? = some u→w.cell? ⟨g,j,none⟩=some u)
theorem Fs.below {w w':World} {ao:Option Addr} {l:List Fe} (h:Fs w ao l) (hb:Below w.heap.size w w'):Fs w' ao l:=by
 refine ⟨fun x hx=>(h.1 x hx).below hb,?_⟩
 rcases h.2 with h | ⟨g,rfl,hc⟩
 ·exact .inl h
 ·exact .inr ⟨g,rfl,fun j u hu=>by
   have:=hc j u hu
   exact (hb.cell (World.block_lt_of_cell? w _ this)).trans this⟩
structure FAt (w:World) (g i:Nat) (x:Fe):Prop where
 c0:w.cell? ⟨g,i*3,none⟩=some (.int .i64 x.f.k)
 c1:w.cell? ⟨g,i*3+1,none⟩=some (.int .i64 (x.f.n:Nat))
 c2:w.cell? ⟨g,i*3+2,none⟩=some (.slice x.ao x.f.b.length x.c)
 sl:Sl w x.ao x.c x.f.b
theorem Fs.get {w:World} {ao:Option Addr} {l:List Fe} (h:Fs w ao l) {i:Nat} {x:Fe} (hx:l[i]? = some x):∃ g,ao=some ⟨g,0,none⟩∧FAt w g i x:=by
 rcases h.2 with h0 | ⟨g,rfl,hc⟩
 ·rw [h0] at hx;simp at hx
 ·exact ⟨g,rfl,hc _ _ (by have:=fcells_at l i 0 x hx (by omega);exact this),hc _ _ (by have:=fcells_at l i 1 x hx (by omega);exact this),hc _ _ (by have:=fcells_at l i 2 x hx (by omega);exact this),h.1 x (List.mem_of_getElem? hx)⟩
structure FOwn (w:World) (base e:Nat) (v:Value) (l:List Fe):Prop where
 own:w.ownsRow base e 3 v l.length (fcells l)
 sl:∀ x∈l,Sl w x.ao x.c x.f.b
 apart:∀ x∈l,x.f.b≠[]→∀ ad,x.ao=some ad→v.ownBlock≠some ad.block
theorem FOwn.below {w w':World} {base e:Nat} {v:Value} {l:List Fe} (h:FOwn w base e v l) (hb:Below w.heap.size w w'):FOwn w' base e v l:=
 ⟨ownsRow_below h.own hb,fun x hx=>(h.sl x hx).below hb,h.apart⟩
theorem FOwn.nil (w:World) (base e:Nat):FOwn w base e (.slice none 0 0) []:=⟨World.ownsRow_nil _ _ _ _,(fun x h=>by cases h),(fun x h=>by cases h)⟩
theorem FOwn.fs {w:World} {base e:Nat} {ao:Option Addr} {c:Nat} {l:List Fe} (h:FOwn w base e (.slice ao l.length c) l):Fs w ao l:=by
 refine ⟨h.sl,?_⟩
 by_cases h0:l=[]
 ·exact .inl h0
 ·right
  obtain ⟨g,cap,hv,_,hlt⟩:=h.own.form (List.length_pos_iff.2 h0)
  have hA:ao=some ⟨g,0,none⟩:=by injection hv
  subst hA
  refine ⟨g,rfl,fun j u hu=>?_⟩
  have:=h.own.cells (g:=g) rfl j u hu
  rwa [Addr.add_lit,Nat.zero_add] at this
theorem Sl.block_lt {w:World} {ao:Option Addr} {c:Nat} {xs:List Nat} (h:Sl w ao c xs) (hx:xs≠[]):∀ ad,ao=some ad→ad.block<w.heap.size:=by
 intro ad e
 rcases h.src with h0 | ⟨b,off,rfl,hc⟩
 ·exact absurd h0 hx
 ·obtain rfl:=Option.some.inj e
  exact World.block_lt_of_cell? w _ (hc 0 (List.length_pos_iff.2 hx))
theorem Sl.touch {S:Nat→Prop} {w w':World} {ao:Option Addr} {c:Nat} {xs:List Nat} (h:Sl w ao c xs) (ht:Touch S w w') (hs:xs≠[]→∀ ad,ao=some ad→¬S ad.block):Sl w' ao c xs:=
 ⟨h.src.touch ht fun _ _ e hx=>hs hx _ e,h.le,h.big,h.nil,h.bs⟩
theorem FOwn.app {w w':World} {base e:Nat} {v v':Value} {l:List Fe} {x:Fe} (h:FOwn w base e v l) (hx:Sl w x.ao x.c x.f.b) (hap:x.f.b≠[]→∀ ad,x.ao=some ad→v.ownBlock≠some ad.block)
  (hA:Apd w base e 3 v (l.length+1) (fcells l++x.cells) v' w'):FOwn w' base e v' (l++[x]):=by
 have hall:∀ y∈l++[x],Sl w y.ao y.c y.f.b∧(y.f.b≠[]→∀ ad,y.ao=some ad→v.ownBlock≠some ad.block):=by
  intro y hy
  rcases List.mem_append.1 hy with hy | hy
  ·exact ⟨h.sl y hy,h.apart y hy⟩
  ·rw [List.mem_singleton] at hy;subst hy;exact ⟨hx,hap⟩
 refine ⟨?_,fun y hy=>?_,fun y hy hne ad had hc=>?_⟩
 ·rw [List.length_append,fcells_app,fcells_one];exact hA.own
 ·exact (hall y hy).1.touch hA.touch (hall y hy).2
 ·rcases hA.row _ hc with h1 | h1
  ·exact (hall y hy).2 hne ad had h1
  ·have:=(hall y hy).1.block_lt hne ad had
   omega
end
end Go.Proofs.YthbbpooobaahiaaGreatDoor.Cu
