/- Part 18. -/
import Derived.Deep.CutRange
import Derived.Deep.RegionWith
import Derived.Lib.EndianBits
import Derived.Maps.OwnOps
import Derived.Maps.OwnSet
import Derived.Maps.Views
import Derived.Test.YtacpfpghokcdlaaGreatDoorXA17
namespace Go.Proofs.YtacpfpghokcdlaaGreatDoor.V
set_option maxRecDepth 100000
section
open Go.RowKit Go.Maps
theorem law60:Keyed Tryz.prog 105:=int_keyed Tryz.underlying105
theorem zero3 (w:World):(zeroValue 3).run Tryz.prog w = .ok (.int .i64 0) w:=by kernel_rfl
theorem wf_u32 {k:Nat} (h:k<16777216):(Lit.int .u32 (k:Int)).wf=true:=WalkArith.wf_u32 ⟨by omega,by omega⟩
theorem bs_at {b:List Nat} (h:Bs b) (i:Nat):b.getD i 0<256:=by
 rw [List.getD_eq_getElem?_getD]
 cases hi:b[i]? with
 | none=>simp
 | some x=>simpa using h x (List.mem_of_getElem? hi)
structure Mof (bs:List Nat) (n:Nat) (D:DataW Unit):Prop where
 map:IsMap D
 has:∀ k:Nat,Maps.has D (.int .u32 (k:Int))=(M.lastP bs k n).isSome
 at_:∀ k:Nat,D.atKey (.int .u32 (k:Int)) (.lit (.int .i64 0)) = .lit (.int .i64 (((M.lastP bs k n).getD 0:Nat):Int))
theorem Mof.start (bs:List Nat):Mof bs 0 (.map []):=⟨isMap_empty,fun _=>rfl,fun _=>rfl⟩
theorem Mof.step {bs:List Nat} {n:Nat} {D:DataW Unit} (h:Mof bs n D):Mof bs (n+1) (D.put (.int .u32 (M.key3 bs n:Nat)) (.lit (.int .i64 (n:Nat)))):=by
 refine ⟨h.map.put _ _,fun k=>?_,fun k=>?_⟩
 ·by_cases e:M.key3 bs n=k
  ·subst e
   rw [has_put_same h.map (show WideAt.IsKeyLit (.int .u32 _) from trivial),M.lastP,if_pos rfl];rfl
  ·rw [has_put_other (by intro h';cases h';exact e rfl),M.lastP,if_neg e,h.has]
 ·by_cases e:M.key3 bs n=k
  ·subst e
   rw [atKey_put_same h.map (show WideAt.IsKeyLit (.int .u32 _) from trivial),M.lastP,if_pos rfl];rfl
  ·rw [atKey_put_other (by intro h';cases h';exact e rfl),M.lastP,if_neg e,h.at_]
theorem by_cap {w:World} {v:Value} {bs:List Nat} (h:BySl w v bs):∀ k,v.ownBlock=some k→bs≠[]→k<w.heap.size:=fun k hk hn=>by
 obtain ⟨b,off,c,rfl,_,hc⟩:=h.at (List.length_pos_iff.2 hn)
 have:=World.block_lt_of_cell? w _ (hc 0 (List.length_pos_iff.2 hn))
 have hk':b=k:=by simpa [Value.ownBlock] using hk
 subst hk'
 exact this
theorem by_far {S:Nat→Prop} {w w':World} {B:Nat} {v:Value} {bs:List Nat} (h:BySl w v bs) (hf:∀ k,v.ownBlock=some k→bs≠[]→k<B) (ht:Touch S w w') (hS:∀ k,S k→B≤k):BySl w' v bs:=by
 by_cases e:bs=[]
 ·subst e
  rcases h with h | ⟨ad,c,h1,h2,_⟩
  ·exact .inl h
  ·exact .inr ⟨ad,c,h1,h2,fun j u hu=>by simp [u8s] at hu⟩
 ·exact h.touch ht fun k hk hs=>by have:=hf k hk e;have:=hS k hs;omega
structure Fin (w:World) (B p mb ab pl wt:Nat) (bv:Value) (bs:List Nat) (cop:Bool) (n:Nat):Prop where
 blk:Blk w p 138 #[.int .i64 (pl:Nat),.int .i64 (wt:Nat),bv,.map (some mb),.slice (some ⟨ab,0,none⟩) bs.length bs.length,.bool cop]
 by_:BySl w bv bs
 map:∃ D:DataW Unit,w.ownsMap Tryz.prog 105 (plainElem Tryz.prog 3) mb n D∧Mof bs n D
 ring:∃ g:Nat→Int,Blk w ab 3 (va bs.length fun i => .int .i64 (g i))∧∀ q,q<n→g q=M.pv bs (M.key3 bs q) q
 far:(∀ k,bv.ownBlock=some k→bs≠[]→k<B)∧B≤p∧B≤mb∧B≤ab∧p≠ab∧p≠mb∧ab≠mb
 nums:pl≤1000∧wt≤1000
theorem Fin.grow {w w':World} {B p mb ab pl wt:Nat} {bv:Value} {bs:List Nat} {cop:Bool} {n:Nat} (h:Fin w B p mb ab pl wt bv bs cop n) (hb:Below w.heap.size w w'):Fin w' B p mb ab pl wt bv bs cop n:=by
 obtain ⟨D,hD,hM⟩:=h.map
 obtain ⟨g,hg,hv⟩:=h.ring
 refine ⟨h.blk.below hb,by_on h.by_ hb,⟨D,?_,hM⟩,⟨g,hg.below hb,hv⟩,h.far,h.nums⟩
 obtain ⟨es,clock,hk,F,hs,hD⟩:=hD
 exact ⟨es,clock,(hb.block mb (Array.getElem?_eq_some_iff.1 hk).1).trans hk,F,hs,hD⟩
theorem Fin.drewN {w:World} {B p mb ab pl wt:Nat} {bv:Value} {bs:List Nat} {cop:Bool} {n:Nat} (h:Fin w B p mb ab pl wt bv bs cop n) (q:Nat):Fin (w.drewN q) B p mb ab pl wt bv bs cop n:=h.grow (below_drewN (Below.refl _ _) q)
theorem or3 (x y z:Nat) (hx:x<256) (hy:y<256) (hz:z<256) :
  bits BinOp.or IntKind.u32 (bits BinOp.or IntKind.u32 (x:Int) ((y:Int)*256)) ((z:Int)*65536)=((x+256*y+65536*z:Nat):Int):=by
 have h1:bits BinOp.or IntKind.u32 (x:Int) ((y:Int)*256)=(x:Int)+(y:Int)*256:=Go.u32_or8 _ _ (by omega) (by omega) (by omega) (by omega) (by omega)
 have h2:bits BinOp.or IntKind.u32 ((x:Int)+(y:Int)*256) ((z:Int)*65536)=(x:Int)+(y:Int)*256+(z:Int)*65536:=Go.u32_or16 _ _ (by omega) (by omega) (by omega) (by omega) (by omega)
 rw [h1,h2]
 omega
set_option maxHeartbeats 1600000 in
theorem three_some (p mb ab pl wt:Nat) (ao:Option Addr) (c:Nat) (bs:List Nat) (cop:Bool) (n B at_:Nat) (w:World) (h:Fin w B p mb ab pl wt (.slice ao bs.length c) bs cop n) (hb:Bs bs) (hl:bs.length≤30000) (ha:at_+3≤bs.length) :
  Calls Tryz.prog 158 #[.pointer (some ⟨p,0,none⟩),.int .i64 at_] w fun e w'=>e = .returned (.int .u32 (M.key3 bs at_:Nat))∧∃ q,w'=w.drewN q:=by
 have c2:=(h.blk.cell 2).trans (show _=some (Value.slice ao bs.length c) from rfl)
 obtain ⟨b1,off,rfl,g0⟩:=by_cell h.by_ at_ (by omega)
 obtain ⟨b2,off2,he,g1⟩:=by_cell h.by_ (at_+1) (by omega)
 simp only [Option.some.injEq,Addr.mk.injEq,and_true] at he
 obtain ⟨rfl,rfl⟩:=he
 obtain ⟨b2,off2,he,g2⟩:=by_cell h.by_ (at_+2) (by omega)
 simp only [Option.some.injEq,Addr.mk.injEq,and_true] at he
 obtain ⟨rfl,rfl⟩:=he
 obtain ⟨x,hx⟩:∃ x,x=bs.getD at_ 0:=⟨_,rfl⟩
 obtain ⟨y,hy⟩:∃ y,y=bs.getD (at_+1) 0:=⟨_,rfl⟩
 obtain ⟨z,hz⟩:∃ z,z=bs.getD (at_+2) 0:=⟨_,rfl⟩
 have hx8:x<256:=by rw [hx];exact bs_at hb _
 have hy8:y<256:=by rw [hy];exact bs_at hb _
 have hz8:z<256:=by rw [hz];exact bs_at hb _
 rw [←hx] at g0
 rw [←hy] at g1
 rw [←hz] at g2
 obtain ⟨L,hL⟩:∃ L,L=bs.length:=⟨_,rfl⟩
 have HK:Hid (M.key3 bs at_=x+256*y+65536*z):=Lib.hid (by unfold M.key3;rw [hx,hy,hz])
 obtain ⟨K,hK⟩:∃ K,K=M.key3 bs at_:=⟨_,rfl⟩
 rw [←hK] at HK ⊢
 rw [←hL] at hl ha c2
 have e1:IntKind.i64.wrap ((at_:Int)+1)=(at_:Int)+1:=by rw [IntKind.wrap_i64];omega
 have e2:IntKind.i64.wrap ((at_:Int)+2)=(at_:Int)+2:=by rw [IntKind.wrap_i64];omega
 have l0:(at_:Int)<L:=by omega
 have l1:(at_:Int)+1<L:=by omega
 have l2:(at_:Int)+2<L:=by omega
 have t1:((at_:Int)+1).toNat=at_+1:=by omega
 have t2:((at_:Int)+2).toNat=at_+2:=by omega
 have s1:(0:Int)≤(at_:Int)+1:=by omega
 have s2:(0:Int)≤(at_:Int)+2:=by omega
 clear h hx hy hz hL hb hK
 go_enter Tryz.func158,Tryz.ntmps158
 go_wp2
 go_quiet (fail)
 go_wp2
 have ho:=or3 x y z hx8 hy8 hz8
 rw [ho,←HK.out]
 go_ret
 exact ⟨rfl,_,rfl⟩
theorem three_any (p mb ab pl wt:Nat) (v:Value) (bs:List Nat) (cop:Bool) (n B at_:Nat) (w:World) (h:Fin w B p mb ab pl wt v bs cop n) (hb:Bs bs) (hl:bs.length≤30000) (ha:at_+3≤bs.length) :
  Calls Tryz.prog 158 #[.pointer (some ⟨p,0,none⟩),.int .i64 at_] w fun e w'=>e = .returned (.int .u32 (M.key3 bs at_:Nat))∧∃ q,w'=w.drewN q:=by
 obtain ⟨ao,c,rfl⟩:=by_shape h.by_
 exact three_some p mb ab pl wt ao c bs cop n B at_ w h hb hl ha
def la (bs:List Nat) (at_:Nat):Int:=if at_+3≤bs.length then M.pv bs (M.key3 bs at_) at_ else -1
theorem Fin.look {w:World} {B p mb ab pl wt:Nat} {bv:Value} {bs:List Nat} {cop:Bool} {n:Nat} (h:Fin w B p mb ab pl wt bv bs cop n) (k:Nat) (hk:k<16777216) :
  ∃ x:Nat,(∀ q,(Instr.lookup 136 (.map (some mb)) (.int .u32 (k:Nat)) true).run Tryz.prog (w.drewN q) = .ok (.tuple #[.int .i64 (x:Nat),.bool (M.lastP bs k n).isSome]) (w.drewN q))∧((M.lastP bs k n).isSome=true→((x:Nat):Int)=M.pv bs k n)∧((M.lastP bs k n).isSome=false→M.pv bs k n = -1):=by
 refine ⟨(M.lastP bs k n).getD 0,fun q=>?_,fun h=>?_,fun h=>?_⟩
 ·obtain ⟨D,hD,hM⟩:=(h.drewN q).map
  obtain ⟨v,ps,hrun,hv⟩:=hD.look_ok law60 Tryz.underlying136 (zero3 _) (plainElem_int Tryz.underlying3 (by decide)) (keyOf_int_mk Tryz.underlying105 (wf_u32 hk))
  rw [hM.at_ k] at hv
  obtain ⟨c,rfl,hc,_⟩:=plainElem_int_inv Tryz.underlying3 hv
  simp only [Prod.mk.injEq,DataW.lit.injEq,Lit.int.injEq,true_and] at hc
  rw [hrun,hM.has k,hc.1]
 ·unfold M.pv
  cases hl:M.lastP bs k n with
  | none=>rw [hl] at h;cases h
  | some p=>rfl
 ·unfold M.pv
  cases hl:M.lastP bs k n with
  | none=>rfl
  | some p=>rw [hl] at h;cases h
set_option maxHeartbeats 1600000 in
theorem lastAt_any (p mb ab pl wt:Nat) (v:Value) (bs:List Nat) (cop:Bool) (B at_:Nat) (w:World) (h:at_+3≤bs.length→Fin w B p mb ab pl wt v bs cop at_) (hv:w.cell? ⟨p,2,none⟩=some v) (hby:BySl w v bs) (hb:Bs bs) (hl:bs.length≤30000) (ha:at_≤bs.length) :
  Calls Tryz.prog 154 #[.pointer (some ⟨p,0,none⟩),.int .i64 at_] w fun e w'=>e = .returned (.int .i64 (la bs at_))∧∃ q,w'=w.drewN q:=by
 obtain ⟨ao,c,rfl⟩:=by_shape hby
 by_cases h3:at_+3≤bs.length
 ·have h:=h h3
  obtain ⟨x,hx,hs,hn⟩:=h.look (M.key3 bs at_) (M.key3_lt hb at_)
  rw [show la bs at_=M.pv bs (M.key3 bs at_) at_ from if_pos h3]
  have HT:=Lib.hid fun q=>three_any p mb ab pl wt _ bs cop at_ B at_ (w.drewN q) (h.drewN q) hb hl h3
  have c3:=(h.blk.cell 3).trans (show _=some (Value.map (some mb)) from rfl)
  obtain ⟨L,hL⟩:∃ L,L=bs.length:=⟨_,rfl⟩
  obtain ⟨K,hK⟩:∃ K,K=M.key3 bs at_:=⟨_,rfl⟩
  obtain ⟨y,hy⟩:∃ y,y=M.pv bs (M.key3 bs at_) at_:=⟨_,rfl⟩
  obtain ⟨ok,hok⟩:∃ ok,ok=(M.lastP bs (M.key3 bs at_) at_).isSome:=⟨_,rfl⟩
  rw [←hok,←hy] at hs hn
  rw [←hok] at hx
  rw [←hK] at HT hx
  rw [←hy]
  rw [←hL] at hl h3 hv
  have d1:decide ((L:Int)<(at_:Int)+3)=false:=by simp;omega
  have d2:decide (L<at_+3)=false:=by simp;omega
  clear h hb hok hy hK hL hby
  cases ok with
  | true=>
   obtain rfl:y=(x:Int):=(hs rfl).symm
   clear hs hn
   go_enter Tryz.func154,Tryz.ntmps154
   go_wp2
   go_quiet (first | (go_at_call 158;exact Calls.quiet_of (HT.out _)) | fail)
   go_wp2
   go_ret
   exact ⟨rfl,_,rfl⟩
  | false=>
   obtain rfl:y = -1:=hn rfl
   clear hs hn
   go_enter Tryz.func154,Tryz.ntmps154
   go_wp2
   go_quiet (first | (go_at_call 158;exact Calls.quiet_of (HT.out _)) | fail)
   go_wp2
   go_ret
   exact ⟨rfl,_,rfl⟩
 ·rw [show la bs at_ = -1 from if_neg h3]
  obtain ⟨L,hL⟩:∃ L,L=bs.length:=⟨_,rfl⟩
  rw [←hL] at hl h3 hv ha
  have d1:(L:Int)<(at_:Int)+3:=by omega
  have d2:L<at_+3:=by omega
  clear h hb hL hby h3
  go_enter Tryz.func154,Tryz.ntmps154
  go_wp2
  go_ret
  exact ⟨rfl,0,rfl⟩
theorem places_any (p pl:Nat) (cop:Bool) (w:World) (c0:w.cell? ⟨p,0,none⟩=some (.int .i64 (pl:Nat))) (c5:w.cell? ⟨p,5,none⟩=some (.bool cop)) :
  Calls Tryz.prog 155 #[.pointer (some ⟨p,0,none⟩)] w fun e w'=>e = .returned (.int .i64 ((if cop then pl else 32768:Nat):Int))∧w'=w:=by
 cases cop with
 | true=>
  go_enter Tryz.func155,Tryz.ntmps155
  go_wp2
  go_ret
  exact ⟨rfl,rfl⟩
 | false=>
  go_enter Tryz.func155,Tryz.ntmps155
  go_wp2
  go_ret
  exact ⟨rfl,rfl⟩
def worth (cop:Bool) (L D:Nat):Bool:=decide (3<L) || (decide (L=3) && cop && decide (D≤4096))
theorem isWorth_any (p l L D:Nat) (cop:Bool) (w:World) (c5:w.cell? ⟨p,5,none⟩=some (.bool cop)) (hp:p<w.heap.size) (hL:L≤1000000) (hD:D≤1000000) :
  Calls Tryz.prog 157 #[.pointer (some ⟨p,0,none⟩),tv ⟨l,L,D⟩] w fun e w'=>e = .returned (.bool (worth cop L D))∧Below w.heap.size w w':=by
 have B1:=Lib.hid ((Below.refl w.heap.size w).alloc (Nat.le_refl _) (.cells #[.int .u8 (l:Nat),.int .i64 (L:Nat),.int .i64 (D:Nat)] 128))
 have fin:∀ (c:Bool),worth cop L D=c→worth cop L D=c:=fun c hc=>hc
 have HF:=Lib.hid fin
 have HP:=Lib.hid (show (w.alloc (.cells #[.int .u8 (l:Nat),.int .i64 (L:Nat),.int .i64 (D:Nat)] 128)).cell? ⟨p,5,none⟩=some (.bool cop) from (B1.out.cell hp).trans c5)
 clear fin
 by_cases c1:3<L
 ·have d1:(3:Int)<L:=by omega
  rw [HF.out true (by simp [worth,c1])]
  clear HF c1
  go_enter Tryz.func157,Tryz.ntmps157
  go_wp2
  go_ret
  exact ⟨rfl,B1.out⟩
 ·have d1:decide ((3:Int)<L)=false:=by simp;omega
  have d1':decide (3<L)=false:=by simp;omega
  by_cases c2:L=3
  ·subst c2
   cases cop with
   | true=>
    by_cases c3:D≤4096
    ·have d3:(D:Int)≤4096:=by omega
     rw [HF.out true (by simp [worth,c3])]
     have c5':=HP.out
     clear HF c1 c3
     go_enter Tryz.func157,Tryz.ntmps157
     go_wp2
     go_ret
     exact ⟨rfl,B1.out⟩
    ·have d3:decide ((D:Int)≤4096)=false:=by simp;omega
     have d3':decide (D≤4096)=false:=by simp;omega
     rw [HF.out false (by simp [worth];omega)]
     have c5':=HP.out
     clear HF c1 c3
     go_enter Tryz.func157,Tryz.ntmps157
     go_wp2
     go_ret
     exact ⟨rfl,B1.out⟩
   | false=>
    rw [HF.out false (by simp [worth])]
    have c5':=HP.out
    clear HF c1
    go_enter Tryz.func157,Tryz.ntmps157
    go_wp2
    go_ret
    exact ⟨rfl,B1.out⟩
  ·have d2:((L:Int) == 3)=false:=by simp;omega
   rw [HF.out false (by simp [worth];omega)]
   clear HF c1 c2
   go_enter Tryz.func157,Tryz.ntmps157
   go_wp2
   go_ret
   exact ⟨rfl,B1.out⟩
theorem any_drew {P:Program} {f:Nat} {args:Array Value} {w:World} {E:Ending} (h:∀ q,Calls P f args (w.drewN q) fun e w'=>e=E∧∃ m,w'=(w.drewN q).drewN m) :
  ∀ W,(∃ q,W=w.drewN q)→Calls P f args W fun e w'=>e=E∧∃ m,w'=w.drewN m:=fun W hW=>by
 obtain ⟨q,rfl⟩:=hW
 refine (h q).mono ?_
 rintro e w' ⟨rfl,m,rfl⟩
 exact ⟨rfl,_,World.drewN_drewN _ _ _⟩
abbrev Kps (mb ab:Nat) (k:Nat):Prop:=k=ab∨k=mb
theorem Fin.touch {S:Nat→Prop} {w w':World} {B p mb ab pl wt:Nat} {bv:Value} {bs:List Nat} {cop:Bool} {n:Nat} (h:Fin w B p mb ab pl wt bv bs cop n) (ht:Touch S w w') (hp:¬S p) (hS:∀ k,S k→B≤k) :
  Blk w' p 138 #[.int .i64 (pl:Nat),.int .i64 (wt:Nat),bv,.map (some mb),.slice (some ⟨ab,0,none⟩) bs.length bs.length,.bool cop]∧BySl w' bv bs:=
 ⟨h.blk.touch ht hp,by_far h.by_ h.far.1 ht hS⟩
theorem Fin.ringSet {w:World} {B p mb ab pl wt:Nat} {bv:Value} {bs:List Nat} {cop:Bool} {n:Nat} (h:Fin w B p mb ab pl wt bv bs cop n) (y:Int) :
  Fin (w.setCell ⟨ab,n,none⟩ (.int .i64 y)) B p mb ab pl wt bv bs cop n∧Touch (Kps mb ab) w (w.setCell ⟨ab,n,none⟩ (.int .i64 y))∧
   ∃ g:Nat→Int,Blk (w.setCell ⟨ab,n,none⟩ (.int .i64 y)) ab 3 (va bs.length fun i => .int .i64 (g i))∧(∀ q,q<n→g q=M.pv bs (M.key3 bs q) q)∧g n=y:=by
 have ht:Touch (Kps mb ab) w (w.setCell ⟨ab,n,none⟩ (.int .i64 y)):=(Touch.refl _ w).setCell _ _ (.inl (.inl rfl))
 have hf:=h.far
 obtain ⟨t1,t2⟩:=h.touch ht (by unfold Kps;omega) (fun k hk=>by unfold Kps at hk;omega)
 obtain ⟨g,hg,hv⟩:=h.ring
 have hb:Blk (w.setCell ⟨ab,n,none⟩ (.int .i64 y)) ab 3 (va bs.length fun i => .int .i64 (if i=n then y else g i)):=by
  have:=hg.setCell n (.int .i64 y)
  rw [va_set] at this
  rwa [va_congr (F:=fun i=>if i=n then Value.int .i64 y else .int .i64 (g i)) (G:=fun i => .int .i64 (if i=n then y else g i)) fun i _=>by split <;> rfl] at this
 have hq:∀ q,q<n→(if q=n then y else g q)=M.pv bs (M.key3 bs q) q:=fun q hq=>by rw [if_neg (by omega)];exact hv q hq
 refine ⟨⟨t1,t2,?_,⟨_,hb,hq⟩,hf,h.nums⟩,ht,_,hb,hq,if_pos rfl⟩
 obtain ⟨D,⟨es,clock,hk,F,hs,hD⟩,hM⟩:=h.map
 refine ⟨D,⟨es,clock,?_,F,hs,hD⟩,hM⟩
 exact (((Touch.refl (fun k=>k=ab) w).setCell ⟨ab,n,none⟩ (.int .i64 y) (.inl rfl)).block mb (Array.getElem?_eq_some_iff.1 hk).1 (by show ¬mb=ab;omega)).trans hk
theorem Fin.mapSet {w:World} {B p mb ab pl wt:Nat} {bv:Value} {bs:List Nat} {cop:Bool} {n:Nat} (h:Fin w B p mb ab pl wt bv bs cop n) (hb:Bs bs) (hn:n≤30000) (hr:∃ g:Nat→Int,Blk w ab 3 (va bs.length fun i => .int .i64 (g i))∧∀ q,q<n+1→g q=M.pv bs (M.key3 bs q) q) :
  ∃ w',(Instr.mapUpdate 136 (.map (some mb)) (.int .u32 (M.key3 bs n:Nat)) (.int .i64 (n:Nat))).run Tryz.prog w = .ok () w'∧Fin w' B p mb ab pl wt bv bs cop (n+1)∧Touch (Kps mb ab) w w':=by
 obtain ⟨D,hD,hM⟩:=h.map
 obtain ⟨w',hrun,hown,hg⟩:=hD.update law60 Tryz.underlying136 (by unfold maxLen;omega) (keyOf_int_mk Tryz.underlying105 (wf_u32 (M.key3_lt hb n))) (plainElem_int Tryz.underlying3 (WalkArith.wf_i64 (n:=(n:Int)) ⟨by omega,by omega⟩))
 have ht:Touch (Kps mb ab) w w':=(Touch.refl _ w).grown hg fun k hk=>by cases hk;exact .inl (.inr rfl)
 have hf:=h.far
 obtain ⟨t1,t2⟩:=h.touch ht (by unfold Kps;omega) (fun k hk=>by unfold Kps at hk;omega)
 obtain ⟨g,hg1,hv⟩:=hr
 have hg2:Touch (fun k=>k=mb) w w':=(Touch.refl _ w).grown hg fun k hk=>by cases hk;exact .inl rfl
 exact ⟨w',hrun,⟨t1,t2,⟨_,hown,hM.step⟩,⟨g,hg1.touch hg2 (by show ¬ab=mb;omega),hv⟩,hf,h.nums⟩,ht⟩
set_option maxHeartbeats 3200000 in
theorem keep_yes (p mb ab pl wt:Nat) (v:Value) (bs:List Nat) (cop:Bool) (B at_:Nat) (w:World) (h:Fin w B p mb ab pl wt v bs cop at_) (hb:Bs bs) (hl:bs.length≤30000) (ha:at_+3≤bs.length) :
  Calls Tryz.prog 123 #[.pointer (some ⟨p,0,none⟩),.int .i64 at_] w fun e w'=>e = .returned (.tuple #[])∧Fin w' B p mb ab pl wt v bs cop (at_+1)∧Touch (Kps mb ab) w w':=by
 have hby:=h.by_
 obtain ⟨ao,c,rfl⟩:=by_shape hby
 have HL:=Lib.hid (any_drew fun q=>lastAt_any p mb ab pl wt (.slice ao bs.length c) bs cop B at_ (w.drewN q) (fun _=>h.drewN q) (((h.drewN q).blk.cell 2).trans rfl) (h.drewN q).by_ hb hl (by omega))
 have hla:la bs at_=M.pv bs (M.key3 bs at_) at_:=if_pos ha
 have HR:=Lib.hid fun q=>(h.drewN q).ringSet (la bs at_)
 have c2:=(h.blk.cell 2).trans (show _=some (Value.slice ao bs.length c) from rfl)
 have c3:=(h.blk.cell 3).trans (show _=some (Value.map (some mb)) from rfl)
 have c4:=(h.blk.cell 4).trans (show _=some (Value.slice (some ⟨ab,0,none⟩) bs.length bs.length) from rfl)
 obtain ⟨g,hg,hgv⟩:=h.ring
 have r1:=(hg.cell at_).trans (va_at _ _ at_ (by omega))
 have r2:=hg.free at_
 have HT0:=Lib.hid fun q=>(Touch.refl (Kps mb ab) w).drewN q
 obtain ⟨L,hL⟩:∃ L,L=bs.length:=⟨_,rfl⟩
 obtain ⟨y,hy⟩:∃ y,y=la bs at_:=⟨_,rfl⟩
 have HY:Hid (y=M.pv bs (M.key3 bs at_) at_):=Lib.hid (by rw [hy,hla])
 obtain ⟨gx,hgx⟩:∃ gx,gx=g at_:=⟨_,rfl⟩
 rw [←hgx] at r1
 rw [←hy] at HL HR
 rw [←hL] at c2 c4
 have hl2:L≤30000:=by omega
 have ha2:at_+3≤L:=by omega
 have HB:=Lib.hid hb
 have HLL:=Lib.hid hL
 have d1:decide ((L:Int)<(at_:Int)+3)=false:=by simp;omega
 have d2:decide (L<at_+3)=false:=by simp;omega
 have e1:IntKind.i64.wrap ((at_:Int)-32768)=(at_:Int)-32768:=by rw [IntKind.wrap_i64];omega
 have d3:decide ((0:Int)≤(at_:Int)-32768)=false:=by simp;omega
 have d3':decide ((32768:Int)≤at_)=false:=by simp;omega
 have d3'':decide (32768≤at_)=false:=by simp;omega
 have m1:(at_:Int).tmod 32768=(at_:Int):=by rw [Int.tmod_eq_emod_of_nonneg (by omega)];omega
 have m2:(at_:Int)%32768=(at_:Int):=by omega
 have i1:(at_:Int)<L:=by omega
 clear h hby hb hl ha hla hg hgv hL hy hgx
 go_enter Tryz.func123,Tryz.ntmps123
 go_wp2
 go_quiet (fail)
 go_wp2
 go_region_with (first | (go_at_call 154;refine (HL.out _ ?_).mono ?_;exact ⟨_,rfl⟩;rintro e w2 ⟨rfl,m,rfl⟩) | fail)
 all_goals
  obtain ⟨F1,T1,g1,hg1,hv1,hn1⟩:=HR.out m
  have T2:=(HT0.out m).trans T1
  clear T1
  generalize (w.drewN m).setCell ⟨ab,at_,none⟩ (.int .i64 y)=W1 at F1 T2 hg1 ⊢
  have b3:=(F1.blk.cell 3).trans (show _=some (Value.map (some mb)) from rfl)
  have HT:=Lib.hid (any_drew fun q=>three_any p mb ab pl wt (.slice ao bs.length c) bs cop at_ B at_ (W1.drewN q) (F1.drewN q) HB.out (by rw [←HLL.out];exact hl2) (by rw [←HLL.out];exact ha2))
  obtain ⟨X,hX⟩:=Classical.skolem.1 (fun q=>(F1.drewN q).mapSet HB.out (by omega) ⟨g1,hg1.drewN q,fun i hi=>by
   by_cases e:i<at_
   ·exact hv1 i e
   ·obtain rfl:i=at_:=by omega
    rw [hn1,HY.out]⟩)
  have hX1:=fun q=>(hX q).1
  have HX:=Lib.hid fun q=>(hX q).2
  have HT2:=Lib.hid T2
  obtain ⟨K,hK⟩:∃ K,K=M.key3 bs at_:=⟨_,rfl⟩
  rw [←hK] at hX1 HT
  clear c2 c3 c4 r1 r2 HL HR HT0 HY m1 m2 d1 d2 d3 d3' d3'' e1 hX hK F1 hg1 hv1 hn1 T2
  go_wp2
  go_region_with (first | (go_at_call 158;refine (HT.out _ ?_).mono ?_;exact ⟨_,rfl⟩;rintro e w2 ⟨rfl,m2,rfl⟩) | fail)
  all_goals
   go_wp2
   refine bodyPost_end (results_none rfl _ _ _) rfl ?_
   exact ⟨rfl,(HX.out _).1,((HT2.out).drewN _).trans (HX.out _).2⟩
theorem keep_no (p:Nat) (ao:Option Addr) (L c at_:Nat) (w:World) (c2:w.cell? ⟨p,2,none⟩=some (Value.slice ao L c)) (_hl:L≤30000) (ha:at_≤40000) (h3:L<at_+3) :
  Calls Tryz.prog 123 #[.pointer (some ⟨p,0,none⟩),.int .i64 at_] w fun e w'=>e = .returned (.tuple #[])∧w'=w:=by
 have d1:(L:Int)<(at_:Int)+3:=by omega
 have d2:L<at_+3:=by omega
 go_enter Tryz.func123,Tryz.ntmps123
 go_wp2
 refine bodyPost_ret (results_none rfl _ _ _) rfl ?_
 exact ⟨rfl,rfl⟩
def kp (bs:List Nat) (at_:Nat):Nat:=min at_ (bs.length-2)
theorem keep_any (p mb ab pl wt:Nat) (v:Value) (bs:List Nat) (cop:Bool) (B at_:Nat) (w:World) (h:Fin w B p mb ab pl wt v bs cop (kp bs at_)) (hb:Bs bs) (hl:bs.length≤30000) (ha:at_<bs.length) :
  Calls Tryz.prog 123 #[.pointer (some ⟨p,0,none⟩),.int .i64 at_] w fun e w'=>e = .returned (.tuple #[])∧Fin w' B p mb ab pl wt v bs cop (kp bs (at_+1))∧Touch (Kps mb ab) w w':=by
 by_cases h3:at_+3≤bs.length
 ·rw [show kp bs at_=at_ by unfold kp;omega] at h
  rw [show kp bs (at_+1)=at_+1 by unfold kp;omega]
  exact keep_yes p mb ab pl wt v bs cop B at_ w h hb hl h3
 ·have hk:kp bs (at_+1)=kp bs at_:=by unfold kp;omega
  rw [hk]
  have hby:=h.by_
  obtain ⟨ao,c,rfl⟩:=by_shape hby
  refine (keep_no p ao bs.length c at_ w ((h.blk.cell 2).trans rfl) hl (by omega) (by omega)).mono ?_
  rintro e w' ⟨rfl,rfl⟩
  exact ⟨rfl,h,Touch.refl _ _⟩
end
section
open Go.RowKit
theorem asize (w:World) (o:Obj):(w.alloc o).heap.size=w.heap.size+1:=Array.size_push _
theorem step_append_g {t e:Nat} {z:Value} {size bytes:Nat} (T:AT t e z size bytes) {ops:Array Oper} {o:Oper} {a:Act} {w:World} {K:Act→World→Prop} {Q:Exit→Act→World→Prop} {E:Prop}
  (hg:o.guard=none) (s x:Operand) (hop:o.op=Op.call { callee:=Callee.builtin Builtin.append,args := #[s,x],argTypes := #[t,t] })
  (base:Nat) (v sv:Value) (n m:Nat) (xs ys:List Value) (hs:a.eval s=v) (hx:a.eval x=sv) (hown:w.ownsRow base e size v n xs) (hsrc:CellsAt w sv m ys)
  (hyl:ys.length=m*size) (h1:∀ u∈ys,u.oneCell'=true) (hbase:base≤w.heap.size) (hl:n+m≤140737488355328) (hby:(n+m)*bytes≤140737488355328)
  (hK:∀ ao c w',Apg w base e size v (n+m) (xs++ys) (.slice ao (n+m) c) w'→K (a.put o.dst (.slice ao (n+m) c)) w') :
  if Region.wanted o (yielded ops a.tmps)=true then Oper.wp Tryz.prog o a w K Q else E:=by
 have hw:Region.wanted o (yielded ops a.tmps)=true:=by simp [Region.wanted,hg]
 rw [if_pos hw]
 obtain ⟨v',w',hrun,hA⟩:=run_append_g T w o.type hown hsrc hyl h1 hbase hl hby
 obtain ⟨ao,c,rfl⟩:=own_shape hA.own
 unfold Oper.wp
 simp [execOp,hop,resolve,invoke,builtin,hs,hx,hrun,Result.andThen]
 exact hK ao c w' hA
theorem bel_on {w w1 w2:World} (h:Below w.heap.size w w1) (k:Below w1.heap.size w1 w2):Below w.heap.size w w2:=h.trans ((Touch.of_below k:Touch (fun _=>False) w1 w2).below h.size fun _ e=>e.elim)
end
section
open Go.RowKit Go.Maps
theorem tk_told {bs:List Nat} {at_ most left L D:Nat} {cop:Bool} {pl:Int} (h:M.Lk bs at_ most cop pl left L D) (hm:most=min 258 (bs.length-at_)) (ha:at_≤30000) (hend:left=0∨most≤L∨pl = -1) :
  M.Told bs at_ cop (if worth cop L D then ⟨0,L,D⟩ else ⟨bs.getD at_ 0,0,0⟩):=by
 by_cases hw:worth cop L D=true
 ·rw [if_pos hw]
  have hL:3≤L:=by
   unfold worth at hw
   simp at hw
   omega
  refine ⟨.inr ⟨rfl,hL,?_,?_⟩,fun _ h0=>?_⟩
  ·have:=h.le;show L≤258;omega
  ·rcases h.best with ⟨h0,_⟩ | h0
   ·omega
   ·exact h0
  ·simp only at h0;omega
 ·rw [if_neg hw]
  refine ⟨.inl rfl,fun hc _=>h.done hc hm (by omega) hend ?_⟩
  unfold worth at hw
  simp at hw
  omega
def tokF (bs:List Nat) (at_:Nat) (cop:Bool) (pl:Nat):M.Tok:=
 if worth cop (M.srch bs at_ (min 258 (bs.length-at_)) (if cop then pl else 32768) (la bs at_) 0 0).1 (M.srch bs at_ (min 258 (bs.length-at_)) (if cop then pl else 32768) (la bs at_) 0 0).2 then ⟨0,(M.srch bs at_ (min 258 (bs.length-at_)) (if cop then pl else 32768) (la bs at_) 0 0).1,(M.srch bs at_ (min 258 (bs.length-at_)) (if cop then pl else 32768) (la bs at_) 0 0).2⟩ else ⟨bs.getD at_ 0,0,0⟩
theorem tokF_is {bs:List Nat} {at_ pl mo LF L D:Nat} {cop:Bool} {y0:Int} (hm:mo=min 258 (bs.length-at_)) (hl:LF=if cop then pl else 32768) (hy:y0=la bs at_) (h:(L,D)=M.srch bs at_ mo LF y0 0 0) :
  (if worth cop L D then ⟨0,L,D⟩ else ⟨bs.getD at_ 0,0,0⟩:M.Tok)=tokF bs at_ cop pl:=by
 unfold tokF
 rw [←hm,←hl,←hy,←h]
structure Tk (w:World) (B p mb ab pl wt:Nat) (bv:Value) (bs:List Nat) (cop:Bool) (n bx b4 L D:Nat) (wr:World):Prop where
 fin:Fin wr B p mb ab pl wt bv bs cop n
 below:Below w.heap.size w wr
 best:Blk wr bx 128 #[.int .u8 0,.int .i64 (L:Nat),.int .i64 (D:Nat)]
 ans:Blk wr b4 128 #[.int .u8 0,.int .i64 0,.int .i64 0]
 new:w.heap.size≤bx∧w.heap.size≤b4∧bx≠b4
theorem Tk.drewN {w:World} {B p mb ab pl wt:Nat} {bv:Value} {bs:List Nat} {cop:Bool} {n bx b4 L D:Nat} {wr:World} (h:Tk w B p mb ab pl wt bv bs cop n bx b4 L D wr) (q:Nat):Tk w B p mb ab pl wt bv bs cop n bx b4 L D (wr.drewN q):=
 ⟨h.fin.drewN q,below_drewN h.below q,h.best.drewN q,h.ans.drewN q,h.new⟩
abbrev set3 (w:World) (g:Nat) (a b c:Value):World:=((w.setCell ⟨g,0,none⟩ a).setCell ⟨g,1,none⟩ b).setCell ⟨g,2,none⟩ c
theorem blk_set3 {w:World} {g:Nat} {t:TypeId} {x y z:Value} (h:Blk w g t #[x,y,z]) (a b c:Value):Blk (set3 w g a b c) g t #[a,b,c]:=by
 have:=((h.setCell 0 a).setCell 1 b).setCell 2 c
 simpa using this
theorem touch_set3 (w:World) (g:Nat) (a b c:Value):Touch (fun k=>k=g) w (set3 w g a b c):=
 (((Touch.refl (fun k=>k=g) w).setCell ⟨g,0,none⟩ a (.inl rfl)).setCell ⟨g,1,none⟩ b (.inl rfl)).setCell ⟨g,2,none⟩ c (.inl rfl)
theorem _root_.Go.Proofs.YtacpfpghokcdlaaGreatDoor.Touch.cellAt {S:Nat→Prop} {w w':World} (h:Touch S w w') {a:Addr} {v:Value} (hc:w.cell? a=some v) (hs:¬S a.block):w'.cell? a=some v:=by
 rw [World.cell?_of_block (w:=w) (h.block _ (World.block_lt_of_cell? w _ hc) hs)]
 exact hc
theorem res21 {t:Array Value} {W:World} {q:Nat} {x0 x1 x2:Value} (h4:t[4]? = some (.pointer (some ⟨q,0,none⟩))) (h:Blk W q 128 #[x0,x1,x2]) :
  (results Tryz.f122 t).run Tryz.prog W = .ok (.agg #[x0,x1,x2]) W:=by
 have e0:=(h.cell 0).trans (show _=some x0 from rfl)
 have e1:=(h.cell 1).trans (show _=some x1 from rfl)
 have e2:=(h.cell 2).trans (show _=some x2 from rfl)
 simp [results,Tryz.results122,h4,go_sem,e0,e1,e2]
theorem Fin.low {w w':World} {S:Nat→Prop} {B p mb ab pl wt:Nat} {bv:Value} {bs:List Nat} {cop:Bool} {n:Nat} (_h:Fin w B p mb ab pl wt bv bs cop n) {w0:World} (h0:Fin w0 B p mb ab pl wt bv bs cop n) (hb:Below w0.heap.size w0 w) (ht:Touch S w w') (hS:∀ k,S k→w0.heap.size≤k):Fin w' B p mb ab pl wt bv bs cop n:=
 h0.grow (hb.trans (ht.below hb.size hS))
theorem Tk.setBest {w:World} {B p mb ab pl wt:Nat} {bv:Value} {bs:List Nat} {cop:Bool} {n bx b4 L D:Nat} {wr:World} (h0:Fin w B p mb ab pl wt bv bs cop n) (h:Tk w B p mb ab pl wt bv bs cop n bx b4 L D wr) (L' D':Nat) :
  Tk w B p mb ab pl wt bv bs cop n bx b4 L' D' (set3 wr bx (.int .u8 0) (.int .i64 (L':Nat)) (.int .i64 (D':Nat))):=by
 have ht:=touch_set3 wr bx (.int .u8 0) (.int .i64 (L':Nat)) (.int .i64 (D':Nat))
 have hn:=h.new
 exact ⟨h.fin.low h0 h.below ht fun k hk=>by omega,h.below.trans (ht.below h.below.size fun k hk=>by omega),blk_set3 h.best _ _ _,h.ans.touch ht (by omega),hn⟩
theorem Tk.grow {w:World} {B p mb ab pl wt:Nat} {bv:Value} {bs:List Nat} {cop:Bool} {n bx b4 L D:Nat} {wr w':World} (h:Tk w B p mb ab pl wt bv bs cop n bx b4 L D wr) (hb:Below wr.heap.size wr w'):Tk w B p mb ab pl wt bv bs cop n bx b4 L D w':=
 ⟨h.fin.grow hb,bel_on h.below hb,h.best.below hb,h.ans.below hb,h.new⟩
set_option maxHeartbeats 6400000 in
theorem tokenAt_some (p mb ab pl wt:Nat) (ao:Option Addr) (c:Nat) (bs:List Nat) (cop:Bool) (B n at_:Nat) (w:World) (h0:Fin w B p mb ab pl wt (.slice ao bs.length c) bs cop n) (hn:at_+3≤bs.length→n=at_) (hb:Bs bs) (hl:bs.length≤30000) (ha:at_<bs.length) :
  Calls Tryz.prog 122 #[.pointer (some ⟨p,0,none⟩),.int .i64 at_] w fun e w'=>(∃ t,e = .returned (tv t)∧M.Told bs at_ cop t∧t=tokF bs at_ cop pl)∧Below w.heap.size w w':=by
 obtain ⟨L,hL⟩:∃ L,L=bs.length:=⟨_,rfl⟩
 obtain ⟨mo,hmo⟩:∃ mo,mo=min 258 (L-at_):=⟨_,rfl⟩
 have e0:IntKind.i64.wrap ((L:Int)-at_)=((L-at_:Nat):Int):=by rw [IntKind.wrap_i64];omega
 have HCM:=Lib.hid (show min (258:Int) ((L-at_:Nat):Int)=(mo:Int) by omega)
 have hsz:=h0.blk.lt
 have b4:=Blk.made w 128 #[.int .u8 0,.int .i64 0,.int .i64 0]
 have hb4:Below w.heap.size w (w.alloc (.cells #[.int .u8 0,.int .i64 0,.int .i64 0] 128)):=(Below.refl _ _).alloc (Nat.le_refl _) _
 have F4:=h0.grow hb4
 have c2:=(F4.blk.cell 2).trans (show _=some (Value.slice ao bs.length c) from rfl)
 rw [←hL] at c2
 go_enter Tryz.func122,Tryz.ntmps122
 go_upto_region 1 with fail
 go_cut [5] from 18 (fun s5 wx=>s5 = .int .i64 (mo:Nat)∧wx=w.alloc (.cells #[.int .u8 0,.int .i64 0,.int .i64 0] 128))
 case first=>
  have hcm:=HCM.out
  go_wp2
  all_goals
   go_meet
   case rel=>exact ⟨by first | rfl | (congr 1 <;> omega),rfl⟩
 case rest=>
 obtain ⟨rfl,rfl⟩:=hcut
 have HF:=Lib.hid h0
 have HT0:Hid (Tk w B p mb ab pl wt (.slice ao bs.length c) bs cop n (w.alloc (.cells #[.int .u8 0,.int .i64 0,.int .i64 0] 128)).heap.size w.heap.size 0 0 ((w.alloc (.cells #[.int .u8 0,.int .i64 0,.int .i64 0] 128)).alloc (.cells #[.int .u8 0,.int .i64 0,.int .i64 0] 128))):=Lib.hid (by
  have h1:=hb4.alloc hb4.size (.cells #[.int .u8 0,.int .i64 0,.int .i64 0] 128)
  have hs1:=asize w (.cells #[.int .u8 0,.int .i64 0,.int .i64 0] 128)
  exact ⟨h0.grow h1,h1,Blk.made _ _ _,b4.below ((Below.refl _ _).alloc (Nat.le_refl _) _),by omega,Nat.le_refl _,by omega⟩)
 have HS:=Lib.hid hmo
 have HLL:=Lib.hid hL
 have hl2:L≤30000:=by omega
 have ha2:at_<L:=by omega
 have hmob:mo≤258∧at_+mo≤L:=by omega
 have HB:=Lib.hid (And.intro hb (And.intro hl (And.intro ha hn)))
 clear b4 F4 hsz h0 hmo hL hb hl ha hn
 generalize hW1:w.alloc (.cells #[.int .u8 0,.int .i64 0,.int .i64 0] 128)=W1 at HT0 c2 hb4 ⊢
 clear hW1
 go_wp2_with fail
 have HT1:=HT0
 refine (lastAt_any p mb ab pl wt (.slice ao bs.length c) bs cop B at_ _ (fun h3=>by have:=HT0.out.fin;rwa [HB.out.2.2.2 h3] at this) ((HT0.out.fin.blk.cell 2).trans rfl) HT0.out.fin.by_ HB.out.1 HB.out.2.1 (by have:=HB.out.2.2.1;omega)).mono ?_
 rintro e w2 ⟨rfl,q1,rfl⟩
 have HT2:=Lib.hid (HT0.out.drewN q1)
 generalize (W1.alloc (.cells #[.int .u8 0,.int .i64 0,.int .i64 0] 128)).drewN q1=W2 at HT2 ⊢
 have HQ:=Lib.hid HT2.out.fin.nums
 clear HT0 HT1
 go_wp2_with fail
 refine (places_any p pl cop _ ((HT2.out.fin.blk.cell 0).trans rfl) ((HT2.out.fin.blk.cell 5).trans rfl)).mono ?_
 rintro e w3 ⟨rfl,rfl⟩
 have HNX:=Lib.hid HT2.out.new
 generalize W1.heap.size=bx at HT2 HNX ⊢
 obtain ⟨LF,hLF⟩:∃ LF:Nat,LF=if cop then pl else 32768:=⟨_,rfl⟩
 have hLF2:LF≤32768:=by rw [hLF];have:=HQ.out.1;split <;> omega
 have HK0:Hid (M.Lk bs at_ mo cop (la bs at_) LF 0 0):=Lib.hid (by
  unfold la
  split
  ·exact M.Lk.start fun hc=>by rw [hLF,hc];rfl
  ·exact M.Lk.none (fun hc=>by rw [hLF,hc];rfl) (by omega))
 have HY0:Hid (la bs at_ ≠ -1→at_+3≤bs.length):=Lib.hid (by unfold la;split <;> omega)
 obtain ⟨y0,hy0⟩:∃ y0,y0=la bs at_:=⟨_,rfl⟩
 rw [←hy0] at HK0 HY0 ⊢
 rw [←hLF]
 have HEQ:=Lib.hid (fun (Lx Dx:Nat) (hx:(Lx,Dx)=M.srch bs at_ mo LF y0 0 0)=>tokF_is (cop:=cop) (pl:=pl) (by rw [←HLL.out];exact HS.out) hLF hy0 hx)
 clear hLF hy0 HCM c2 hb4 HQ e0
 go_wp2
 go_loopg [7,8] 32769 (fun gm v7 v8 wr=>∃ (pv:Int) (left Lb Db:Nat),left+1≤gm∧v7 = .int .i64 pv∧v8 = .int .i64 (left:Nat)∧Hid ((left≤32768∧(pv ≠ -1→at_+3≤bs.length)∧M.srch bs at_ mo left pv Lb Db=M.srch bs at_ mo LF y0 0 0)∧M.Lk bs at_ mo cop pv left Lb Db∧Tk w B p mb ab pl wt (.slice ao bs.length c) bs cop n bx w.heap.size Lb Db wr))
 case atStart=>exact ⟨y0,LF,0,0,by omega,rfl,rfl,Lib.hid ⟨⟨hLF2,HY0.out,rfl⟩,HK0.out,HT2.out⟩⟩
 case round=>
  clear HK0 HT2 HY0
  obtain ⟨pv,left,Lb,Db,hgm,rfl,rfl,HR⟩:=hrel
  have hlb:=HR.out.1.1
  have x1:=(HR.out.2.2.best.cell 1).trans (show _=some (.int .i64 (Lb:Nat)) from rfl)
  by_cases hgo:0<left∧Lb<mo∧pv ≠ -1
  ·obtain ⟨g1,g2,g3⟩:=hgo
   obtain ⟨pp,rfl⟩:∃ pp:Nat,pv=(pp:Int):=⟨pv.toNat,by have:=HR.out.2.1.low;omega⟩
   have hpa:pp<at_:=by have:=HR.out.2.1.high;omega
   obtain ⟨left,rfl⟩:∃ l,left=l+1:=⟨left-1,by omega⟩
   have h3:at_+3≤bs.length:=HR.out.1.2.1 g3
   have h3L:at_+3≤L:=by rw [HLL.out];exact h3
   obtain ⟨bk,off,rfl,k1⟩:=by_cell HR.out.2.2.fin.by_ (pp+Lb) (by rw [←HLL.out];omega)
   obtain ⟨b2,off2,he,k2⟩:=by_cell HR.out.2.2.fin.by_ (at_+Lb) (by rw [←HLL.out];omega)
   simp only [Option.some.injEq,Addr.mk.injEq,and_true] at he
   obtain ⟨rfl,rfl⟩:=he
   have c2:=(HR.out.2.2.fin.blk.cell 2).trans (show _=some (Value.slice (some ⟨bk,off,none⟩) bs.length c) from rfl)
   have c4:=(HR.out.2.2.fin.blk.cell 4).trans (show _=some (Value.slice (some ⟨ab,0,none⟩) bs.length bs.length) from rfl)
   rw [←HLL.out] at c2 c4
   obtain ⟨g,hg,hgv⟩:=HR.out.2.2.fin.ring
   have r1:=(hg.cell pp).trans (va_at _ _ pp (by rw [←HLL.out];omega))
   rw [hgv pp (by rw [HB.out.2.2.2 h3];exact hpa)] at r1
   obtain ⟨nx,hnx⟩:∃ nx,nx=M.pv bs (M.key3 bs pp) pp:=⟨_,rfl⟩
   rw [←hnx] at r1
   have hnxb:nx ≠ -1→at_+3≤bs.length:=fun _=>h3
   have HNXB:=Lib.hid hnxb
   have f0:=HR.out.2.2.best.free 0
   have f1:=HR.out.2.2.best.free 1
   have f2:=HR.out.2.2.best.free 2
   have x0:=(HR.out.2.2.best.cell 0).trans (show _=some (.int .u8 0) from rfl)
   have x2:=(HR.out.2.2.best.cell 2).trans (show _=some (.int .i64 (Db:Nat)) from rfl)
   obtain ⟨x,hx⟩:∃ x,x=bs.getD (pp+Lb) 0:=⟨_,rfl⟩
   obtain ⟨y,hy⟩:∃ y,y=bs.getD (at_+Lb) 0:=⟨_,rfl⟩
   rw [←hx] at k1
   rw [←hy] at k2
   obtain ⟨dd,hdd⟩:∃ dd,dd=at_-pp:=⟨_,rfl⟩
   have e1:IntKind.i64.wrap ((pp:Int)+Lb)=(pp:Int)+Lb:=by rw [IntKind.wrap_i64];omega
   have e2:IntKind.i64.wrap ((at_:Int)+Lb)=(at_:Int)+Lb:=by rw [IntKind.wrap_i64];omega
   have e3:IntKind.i64.wrap ((at_:Int)-pp)=(dd:Int):=by rw [IntKind.wrap_i64];omega
   have e4:(at_:Int)-pp=(dd:Int):=by omega
   have l1:(pp:Int)+Lb<L:=by omega
   have l2:(at_:Int)+Lb<L:=by omega
   have t1:((pp:Int)+Lb).toNat=pp+Lb:=by omega
   have t2:((at_:Int)+Lb).toNat=at_+Lb:=by omega
   have s1:(0:Int)≤(pp:Int)+Lb:=by omega
   have s2:(0:Int)≤(at_:Int)+Lb:=by omega
   have u1:(0:Int)<((left+1:Nat):Int):=by omega
   have u2:(Lb:Int)<mo:=by omega
   have u2n:Lb<mo:=g2
   have u3:((pp:Int) == -1)=false:=by first | (simp;done) | (simp;omega)
   have u4:(dd:Int)≤32768:=by omega
   have u5:IntKind.i64.wrap (((left+1:Nat):Int)-1)=(left:Int):=by rw [IntKind.wrap_i64];omega
   have u6:((left+1:Nat):Int)-1=(left:Int):=by omega
   have m1:(pp:Int).tmod 32768=(pp:Int):=by rw [Int.tmod_eq_emod_of_nonneg (by omega)];omega
   have m2:(pp:Int)%32768=(pp:Int):=by omega
   have i1:(pp:Int)<L:=by omega
   obtain ⟨lf,hlf⟩:∃ lf,lf=left+1:=⟨_,rfl⟩
   rw [←hlf] at u1 u5 u6 HR ⊢
   have HD:=Lib.hid (And.intro hdd (And.intro hnx hlf))
   have HXY:=Lib.hid (And.intro hx hy)
   have hddb:1≤dd∧dd≤at_∧dd≤30000:=by omega
   clear h3 hg hgv hnx hnxb hx hy hdd hlf g3
   by_cases hxy:x=y
   ·subst hxy
    have dxy:((x:Int) == x)=true:=by simp
    obtain ⟨nn,hnn⟩:∃ nn,nn=M.same bs at_ dd mo:=⟨_,rfl⟩
    have HN:=Lib.hid hnn
    have hnm:nn≤mo:=by rw [hnn];exact M.same_le bs dd mo at_
    have HC:∀ W,(∃ q,W=wr.drewN q)→Calls Tryz.prog 156 #[.slice (some ⟨bk,off,none⟩) bs.length c,.int .i64 at_,.int .i64 dd,.int .i64 mo] W fun e w'=>e = .returned (.int .i64 (nn:Nat))∧∃ m,w'=wr.drewN m:=any_drew fun q=>by
     rw [hnn]
     exact pSame_any (wr.drewN q) _ bs at_ dd mo (HR.out.2.2.drewN q).fin.by_ (by have:=HB.out.2.1;omega) (by rw [←HLL.out];exact ha2) hddb.1 hddb.2.1 (by omega)
    rw [←HLL.out] at HC
    have HC:=Lib.hid HC
    clear hnn
    go_wp2
    go_quiet (fail)
    go_wp2_with fail
    refine (HC.out _ ?_).mono ?_
    ·exact ⟨_,rfl⟩
    rintro e w3 ⟨rfl,q3,rfl⟩
    clear HC
    have HR3:=Lib.hid (HR.out.2.2.drewN q3)
    have HCP:Hid (M.Cop bs at_ nn dd):=Lib.hid (by
     rw [HN.out,HD.out.1]
     exact M.cop_same hpa (by have:=HB.out.2.1;omega) (by have:=HB.out.2.2.1;omega))
    have H4:Hid (M.four bs at_ (at_-pp)→4≤nn):=Lib.hid fun h4=>by
     have h5:=M.four_same h4 (most:=mo) (by have:=h4.1;have:=HS.out;have:=HLL.out;omega)
     rwa [←HD.out.1,←HN.out] at h5
    by_cases hbt:Lb<nn
    ·have v1:(Lb:Int)<nn:=by omega
     have HS3:=Lib.hid (HR3.out.setBest HF.out nn dd)
     have c4':=(HS3.out.fin.blk.cell 4).trans (show _=some (Value.slice (some ⟨ab,0,none⟩) bs.length bs.length) from rfl)
     rw [←HLL.out] at c4'
     have r1':=((touch_set3 (wr.drewN q3) bx (.int .u8 0) (.int .i64 (nn:Nat)) (.int .i64 (dd:Nat)))).cellAt r1 (by have:=HR3.out.new;have:=HF.out.ring;obtain ⟨g,hg,_⟩:=this;have:=hg.lt;show ¬ab=bx;omega)
     go_wp2
     go_roundg (left+1)
     case measure=>omega
     case rel=>
      refine ⟨nx,left,nn,dd,Nat.le_refl _,rfl,rfl,Lib.hid ⟨⟨by omega,HNXB.out,?_⟩,?_,HS3.out⟩⟩
      ·rw [←HR.out.1.2.2,HD.out.2.2,HD.out.2.1,HN.out,HD.out.1]
       exact (M.srch_yes u2n (by rw [←HXY.out.1,←HXY.out.2]) (by rw [←HD.out.1,←HN.out];exact hbt)).symm
      have hk:=HR.out.2.1
      rw [HD.out.2.2] at hk
      rw [HD.out.2.1]
      exact hk.next (by omega) hnm (.inr HCP.out) H4.out
    ·have v1:decide ((Lb:Int)<nn)=false:=by simp;omega
     have v2:decide (Lb<nn)=false:=by simp;omega
     go_wp2
     go_roundg (left+1)
     case measure=>omega
     case rel=>
      refine ⟨nx,left,Lb,Db,Nat.le_refl _,rfl,rfl,Lib.hid ⟨⟨by omega,HNXB.out,?_⟩,?_,HR3.out⟩⟩
      ·rw [←HR.out.1.2.2,HD.out.2.2,HD.out.2.1]
       exact (M.srch_no u2n (fun e=>by have:=e.2;rw [←HD.out.1,←HN.out] at this;omega)).symm
      have hk:=HR.out.2.1
      rw [HD.out.2.2] at hk
      rw [HD.out.2.1]
      exact hk.next (Nat.le_refl _) hk.le hk.best (fun h4=>by have:=H4.out h4;omega)
   ·have dxy:((x:Int) == y)=false:=by simp;omega
    go_wp2
    go_quiet (fail)
    go_wp2
    have HNE:Hid (bs.getD (pp+Lb) 0≠bs.getD (at_+Lb) 0):=Lib.hid (by rw [←HXY.out.1,←HXY.out.2];exact hxy)
    go_roundg (left+1)
    case measure=>omega
    case rel=>
     refine ⟨nx,left,Lb,Db,Nat.le_refl _,rfl,rfl,Lib.hid ⟨⟨by omega,HNXB.out,?_⟩,?_,HR.out.2.2.drewN _⟩⟩
     ·rw [←HR.out.1.2.2,HD.out.2.2,HD.out.2.1]
      exact (M.srch_no u2n (fun e=>HNE.out e.1)).symm
     have hk:=HR.out.2.1
     rw [HD.out.2.2] at hk
     rw [HD.out.2.1]
     exact hk.next (Nat.le_refl _) hk.le hk.best (fun h4=>M.four_byte h4 hpa HNE.out)
  ·have hend:left=0∨mo≤Lb∨pv = -1:=by omega
   have HEX:Hid ((if worth cop Lb Db then ⟨0,Lb,Db⟩ else ⟨bs.getD at_ 0,0,0⟩:M.Tok)=tokF bs at_ cop pl):=Lib.hid (HEQ.out Lb Db (by rw [←HR.out.1.2.2,M.srch_stop hend]))
   have HTo:=Lib.hid (tk_told HR.out.2.1 (by rw [←HLL.out];exact HS.out) (by omega) hend)
   have hbd:Lb≤1000000∧Db≤1000000:=by
    have:=HR.out.2.1.le
    rcases HR.out.2.1.best with ⟨_,h⟩ | h
    ·omega
    ·have:=h.2.2.1;omega
   have x0:=(HR.out.2.2.best.cell 0).trans (show _=some (.int .u8 0) from rfl)
   have x2:=(HR.out.2.2.best.cell 2).trans (show _=some (.int .i64 (Db:Nat)) from rfl)
   have hcs:(left=0)∨(0<left∧mo≤Lb)∨(0<left∧Lb<mo∧pv = -1):=by omega
   clear hend hgo
   rcases hcs with rfl | ⟨q1,q2⟩ | ⟨q1,q2,rfl⟩
   all_goals first | (have q1':(0:Int)<left:=by omega) | skip
   all_goals first | (have q2':decide ((Lb:Int)<mo)=false:=by simp;omega) | (have q2'':(Lb:Int)<mo:=by omega) | skip
   all_goals first | (have q3':decide (Lb<mo)=false:=by simp;omega) | skip
   all_goals
    go_wp2_with fail
    refine (isWorth_any p 0 Lb Db cop wr ((HR.out.2.2.fin.blk.cell 5).trans rfl) HR.out.2.2.fin.blk.lt hbd.1 hbd.2).mono ?_
    rintro e w5 ⟨rfl,hb5⟩
    have HR5:=Lib.hid (HR.out.2.2.grow hb5)
    clear hb5 x0 x1 x2
    have x0:=(HR5.out.best.cell 0).trans (show _=some (.int .u8 0) from rfl)
    have x1:=(HR5.out.best.cell 1).trans (show _=some (.int .i64 (Lb:Nat)) from rfl)
    have x2:=(HR5.out.best.cell 2).trans (show _=some (.int .i64 (Db:Nat)) from rfl)
    have z0:=(HR5.out.ans.cell 0).trans (show _=some (.int .u8 0) from rfl)
    have z1:=(HR5.out.ans.cell 1).trans (show _=some (.int .i64 0) from rfl)
    have z2:=(HR5.out.ans.cell 2).trans (show _=some (.int .i64 0) from rfl)
    have f0:=HR5.out.ans.free 0
    have f1:=HR5.out.ans.free 1
    have f2:=HR5.out.ans.free 2
    obtain ⟨bk,off,rfl,k1⟩:=by_cell HR5.out.fin.by_ at_ (by rw [←HLL.out];exact ha2)
    have c2:=(HR5.out.fin.blk.cell 2).trans (show _=some (Value.slice (some ⟨bk,off,none⟩) bs.length c) from rfl)
    rw [←HLL.out] at c2
    have hai:(at_:Int)<L:=by omega
    have HBL:∀ a b d,Below w.heap.size w (set3 w5 w.heap.size a b d):=fun a b d=>HR5.out.below.trans ((touch_set3 w5 w.heap.size a b d).below HR5.out.below.size fun k hk=>by omega)
    have HBL:=Lib.hid HBL
    obtain ⟨x,hx⟩:∃ x,x=bs.getD at_ 0:=⟨_,rfl⟩
    rw [←hx] at k1
    have HX:=Lib.hid hx
    clear hx
    have HTo2:=HTo
    have HEX2:=HEX
    cases hw:worth cop Lb Db with
    | true=>
     rw [hw,if_pos rfl] at HTo2 HEX2
     clear hw
     go_wp2
     refine bodyPost_ret (res21 rfl (blk_set3 HR5.out.ans _ _ _)) rfl ?_
     exact ⟨⟨_,rfl,HTo2.out,HEX2.out⟩,HBL.out _ _ _⟩
    | false=>
     rw [hw,if_neg (by decide),←HX.out] at HTo2 HEX2
     clear hw
     go_wp2
     refine bodyPost_ret (res21 rfl (blk_set3 HR5.out.ans _ _ _)) rfl ?_
     exact ⟨⟨_,rfl,HTo2.out,HEX2.out⟩,HBL.out _ _ _⟩
theorem tokenAt_any (p mb ab pl wt:Nat) (v:Value) (bs:List Nat) (cop:Bool) (B at_:Nat) (w:World) (h:Fin w B p mb ab pl wt v bs cop (kp bs at_)) (hb:Bs bs) (hl:bs.length≤30000) (ha:at_<bs.length) :
  Calls Tryz.prog 122 #[.pointer (some ⟨p,0,none⟩),.int .i64 at_] w fun e w'=>(∃ t,e = .returned (tv t)∧M.Told bs at_ cop t∧t=tokF bs at_ cop pl)∧Below w.heap.size w w':=by
 have hby:=h.by_
 obtain ⟨ao,c,rfl⟩:=by_shape hby
 exact tokenAt_some p mb ab pl wt ao c bs cop B _ at_ w h (fun h3=>by unfold kp;omega) hb hl ha
theorem run_call2 {ρ : Operand→Value} {o:Oper} {w:World} (x y z:Operand) (ts:Array TypeId) (f:Nat) (caps:Array Value) (v u:Value) (hF:∀ A:Array Value,(callFunc f A).run Tryz.prog w = .ok (.enter f A) w) (ho:o.op = .call { callee := .value x,args := #[y,z],argTypes:=ts }) (hx : ρ x = .func (.func f) #[] caps) (hy : ρ y=v) (hz : ρ z=u) :
  (execOp ρ o).run Tryz.prog w = .ok (.enter f (#[v,u]++caps)) w:=by
 unfold execOp
 simp [ho,hx,hy,hz,hF,go_sem]
theorem enter21 (A:Array Value) (w:World):(callFunc 122 A).run Tryz.prog w = .ok (.enter 122 A) w:=by kernel_rfl
theorem step_call {ops:Array Oper} {o:Oper} {a:Act} {w:World} {K:Act→World→Prop} {Q:Exit→Act→World→Prop} {E:Prop} (hw:Region.wanted o (yielded ops a.tmps)=true) (f:FuncId) (args:Array Value)
  (hr:(execOp a.eval o).run Tryz.prog w = .ok (.enter f args) w) (R:Value→World→Prop) (hc:Calls Tryz.prog f args w fun e w'=>∃ v,e = .returned v∧R v w') (h:∀ v w',R v w'→K (a.put o.dst v) w') :
  if Region.wanted o (yielded ops a.tmps)=true then Oper.wp Tryz.prog o a w K Q else E:=by
 rw [if_pos hw]
 unfold Oper.wp
 rw [hr]
 exact hc.mono (by rintro e w' ⟨v,rfl,hR⟩;exact h v w' hR)
theorem field34 (x z:Nat) (y:Nat) (W:World):(Instr.field 128 (.agg #[.int .u8 (x:Nat),.int .i64 (y:Nat),.int .i64 (z:Nat)]) 1).run Tryz.prog W = .ok (.int .i64 (y:Nat)) W:=by kernel_rfl
set_option maxHeartbeats 4000000 in
theorem gives_yes (p bx wt l L D at_ a1 X:Nat) (w W1:World) (hW1:W1=w.alloc (.cells #[.int .u8 (l:Nat),.int .i64 (L:Nat),.int .i64 (D:Nat)] 128)) (hbx:bx=w.heap.size)
  (HC:Hid (∀ W,Below W1.heap.size W1 W→W.cell? ⟨p,5,none⟩=some (.bool true)∧W.cell? ⟨p,1,none⟩=some (.int .i64 (wt:Nat))∧W.cell? ⟨bx,1,none⟩=some (.int .i64 (L:Nat))))
  (HT:Hid (∀ W,(∃ q,W=W1.drewN q)→Calls Tryz.prog 122 #[.pointer (some ⟨p,0,none⟩),.int .i64 (a1:Nat)] W fun e w'=>(∃ t,e = .returned (tv t)∧t.len=X)∧Below W1.heap.size W1 w'))
  (HBW:Hid (∀ W,Below W1.heap.size W1 W→Below w.heap.size w W))
  (e1:IntKind.i64.wrap (a1:Int)=(a1:Int)) (e2:(at_:Int)+1=(a1:Int)) (h1:(L:Int)<wt) (h0n:0<L) :
  Calls Tryz.prog 124 #[.pointer (some ⟨p,0,none⟩),.int .i64 at_,tv ⟨l,L,D⟩] w fun e w'=>e = .returned (.bool (decide (L<X)))∧Below w.heap.size w w':=by
 go_enter Tryz.func124,Tryz.ntmps124
 go_wp2
 rw [←hW1,←hbx]
 clear hW1 hbx
 refine wp_region_held_drew (S:=fun W=>W.cell? ⟨p,5,none⟩=some (.bool true)∧W.cell? ⟨p,1,none⟩=some (.int .i64 (wt:Nat))∧W.cell? ⟨bx,1,none⟩=some (.int .i64 (L:Nat))) (by kernel_rfl) (HC.out _ (below_drew (Below.refl _ _))) (fun hHeld=>?_)
 refine tA 0 (.pointer (some ⟨p,0,none⟩)) hHeld ?_
 dsimp only [List.set]
 refine tA 1 (.pointer (some ⟨p,0,none⟩)) hHeld ?_
 dsimp only [List.set]
 refine tA 2 (.pointer (some ⟨p,5,none⟩)) hHeld ?_
 dsimp only [List.set]
 refine tA 3 (.bool true) hHeld ?_
 dsimp only [List.set]
 refine tA 4 (.bool true) hHeld ?_
 dsimp only [List.set]
 refine tA 5 (.pointer (some ⟨bx,1,none⟩)) hHeld ?_
 dsimp only [List.set]
 refine tA 6 (.int .i64 (L:Nat)) hHeld ?_
 dsimp only [List.set]
 refine tA 7 (.bool true) hHeld ?_
 dsimp only [List.set]
 refine tA 8 (.bool true) hHeld ?_
 dsimp only [List.set]
 refine tA 9 (.bool true) hHeld ?_
 dsimp only [List.set]
 refine tA 10 (.pointer (some ⟨bx,1,none⟩)) hHeld ?_
 dsimp only [List.set]
 refine tA 11 (.int .i64 (L:Nat)) hHeld ?_
 dsimp only [List.set]
 refine tA 12 (.pointer (some ⟨p,0,none⟩)) hHeld ?_
 dsimp only [List.set]
 refine tA 13 (.pointer (some ⟨p,0,none⟩)) hHeld ?_
 dsimp only [List.set]
 refine tA 14 (.pointer (some ⟨p,0,none⟩)) hHeld ?_
 dsimp only [List.set]
 refine tA 15 (.pointer (some ⟨p,1,none⟩)) hHeld ?_
 dsimp only [List.set]
 refine tA 16 (.int .i64 (wt:Nat)) hHeld ?_
 dsimp only [List.set]
 refine tA 17 (.bool true) hHeld ?_
 dsimp only [List.set]
 refine tA 18 (.bool true) hHeld ?_
 dsimp only [List.set]
 refine tA 19 (.bool true) hHeld ?_
 dsimp only [List.set]
 refine tA 20 (.pointer (some ⟨p,0,none⟩)) hHeld ?_
 dsimp only [List.set]
 refine tA 21 (.int .i64 (at_:Nat)) hHeld ?_
 dsimp only [List.set]
 refine tA 22 (.int .i64 (a1:Nat)) hHeld ?_
 dsimp only [List.set]
 refine tA 25 (.pointer (some ⟨bx,1,none⟩)) hHeld ?_
 dsimp only [List.set]
 refine tA 26 (.int .i64 (L:Nat)) hHeld ?_
 dsimp only [List.set]
 refine wpAnyH_ready (rs:=[23]) (by kernel_rfl) (by simp) ?_
 refine AllReadyH.cons (o:={ dst:=some 30,op:=Op.call { callee:=Callee.value (Operand.func 122),args := #[Operand.tmp 27,Operand.tmp 29],argTypes := #[135,3] },type:=128,pos := "match.go:146",after := #[{ on:=20,ground:=Ground.data },{ on:=22,ground:=Ground.data },{ on:=19,ground:=Ground.chain },{ on:=19,ground:=Ground.guard }],guard:=some (19,true) }) rfl (fun K hK=>?_) AllReadyH.nil
 refine step_call (by rfl) _ _ (run_call2 (.func 122) (.tmp 27) (.tmp 29) _ 122 #[] (.pointer (some ⟨p,0,none⟩)) (.int .i64 (a1:Nat)) (fun _=>enter21 _ _) rfl rfl rfl rfl) (fun v W=>(∃ tl tL tD:Nat,v = .agg #[.int .u8 (tl:Nat),.int .i64 (tL:Nat),.int .i64 (tD:Nat)]∧tL=X)∧Below W1.heap.size W1 W) ?_ ?_
 ·refine (HT.out _ ⟨1,rfl⟩).mono ?_
  rintro e W ⟨⟨⟨tl,tL,tD⟩,rfl,hX⟩,hb⟩
  exact ⟨_,rfl,⟨tl,tL,tD,rfl,hX⟩,hb⟩
 rintro v W2 ⟨⟨tl,tL,tD,rfl,hXe⟩,hb2⟩
 have HXE:=Lib.hid hXe
 clear hXe
 have HB2:=Lib.hid hb2
 refine hK.out _ _ (HC.out _ hb2) (fun hHeld=>?_)
 clear hK K hb2
 have hfd:=fun W=>field34 tl tD tL W
 try simp only [Act.put,List.setIfInBounds_toArray,List.set_cons_zero,List.set_cons_succ]
 refine tA 24 (.int .i64 (tL:Nat)) hHeld ?_
 dsimp only [List.set]
 refine tA 27 (.bool (decide (L<tL))) hHeld ?_
 dsimp only [List.set]
 refine tA 28 (.bool (decide (L<tL))) hHeld ?_
 dsimp only [List.set]
 refine tA 29 (.bool (decide (L<tL))) hHeld ?_
 dsimp only [List.set]
 refine wpAnyH_done (by kernel_rfl) ?_ _
 clear hHeld
 go_wp2
 go_ret
 exact ⟨by rw [←HXE.out];rfl,HBW.out _ HB2.out⟩
theorem any_below {P:Program} {f:Nat} {args:Array Value} {w:World} {E:Ending→Prop} (h:∀ q,Calls P f args (w.drewN q) fun e w'=>E e∧Below (w.drewN q).heap.size (w.drewN q) w') :
  ∀ W,(∃ q,W=w.drewN q)→Calls P f args W fun e w'=>E e∧Below w.heap.size w w':=fun W hW=>by
 obtain ⟨q,rfl⟩:=hW
 refine (h q).mono ?_
 rintro e w' ⟨h1,h2⟩
 exact ⟨h1,bel_on (below_drewN (Below.refl _ _) q) h2⟩
def gvF (bs:List Nat) (at_:Nat) (cop:Bool) (pl wt L:Nat):Bool:=cop && decide (0<L) && decide (L<wt) && decide (L<(tokF bs (at_+1) cop pl).len)
set_option maxHeartbeats 1600000 in
theorem givesWay_any (p mb ab pl wt l L D:Nat) (v:Value) (bs:List Nat) (cop:Bool) (B at_:Nat) (w:World) (h:Fin w B p mb ab pl wt v bs cop (kp bs (at_+1))) (hb:Bs bs) (hl:bs.length≤30000) (ha:0<L→at_+1<bs.length) (hal:at_≤30000) (hL:L≤258) :
  Calls Tryz.prog 124 #[.pointer (some ⟨p,0,none⟩),.int .i64 at_,tv ⟨l,L,D⟩] w fun e w'=>(∃ c:Bool,e = .returned (.bool c)∧(c=true→cop=true)∧c=gvF bs at_ cop pl wt L)∧Below w.heap.size w w':=by
 obtain ⟨W1,hW1⟩:∃ W1,W1=w.alloc (.cells #[.int .u8 (l:Nat),.int .i64 (L:Nat),.int .i64 (D:Nat)] 128):=⟨_,rfl⟩
 have hb1:Below w.heap.size w W1:=by rw [hW1];exact (Below.refl _ _).alloc (Nat.le_refl _) _
 have F1:=h.grow hb1
 obtain ⟨bx,hbx⟩:∃ bx,bx=w.heap.size:=⟨_,rfl⟩
 have x1:W1.cell? ⟨bx,1,none⟩=some (.int .i64 (L:Nat)):=by rw [hW1,hbx,(Blk.made w 128 _).cell];rfl
 have c1:=(F1.blk.cell 1).trans (show _=some (Value.int .i64 (wt:Nat)) from rfl)
 have c5:=(F1.blk.cell 5).trans (show _=some (Value.bool cop) from rfl)
 have HB1:=Lib.hid hb1
 by_cases hc:cop=true
 ·subst hc
  by_cases h0:0<L
  ·by_cases h1:L<wt
   ·refine (gives_yes p bx wt l L D at_ (at_+1) (tokF bs (at_+1) true pl).len w W1 hW1 hbx (Lib.hid fun W hW=>⟨hW.cell (World.block_lt_of_cell? _ _ c5) |>.trans c5,hW.cell (World.block_lt_of_cell? _ _ c1) |>.trans c1,hW.cell (World.block_lt_of_cell? _ _ x1) |>.trans x1⟩)
     (Lib.hid fun W hW=>(any_below (fun q=>tokenAt_any p mb ab pl wt v bs true B (at_+1) (W1.drewN q) (F1.drewN q) hb hl (ha h0)) W hW).mono ?_) (Lib.hid fun W hW=>bel_on hb1 hW) (by rw [IntKind.wrap_i64];omega) (by omega) (by omega) h0).mono ?_
    ·rintro e w' ⟨⟨t,rfl,ht,hte⟩,hbb⟩
     exact ⟨⟨t,rfl,by rw [hte]⟩,hbb⟩
    ·rintro e w' ⟨rfl,hbb⟩
     exact ⟨⟨_,rfl,fun _=>rfl,by simp [gvF,h0,h1]⟩,hbb⟩
   ·have h0':(0:Int)<L:=by omega
    have h1':decide ((L:Int)<wt)=false:=by simp;omega
    have h1'':decide (L<wt)=false:=by simp;omega
    clear h hb1 F1 hb hl ha
    go_enter Tryz.func124,Tryz.ntmps124
    go_wp2
    rw [←hW1,←hbx]
    clear hW1 hbx
    go_quiet (fail)
    go_wp2
    go_ret
    exact ⟨⟨false,rfl,by simp,by simp [gvF,h1]⟩,below_drewN HB1.out _⟩
  ·have hL0:decide ((0:Int)<L)=false:=by simp;omega
   have hL0':decide (0<L)=false:=by simp;omega
   clear h hb1 F1 hb hl ha
   go_enter Tryz.func124,Tryz.ntmps124
   go_wp2
   rw [←hW1,←hbx]
   clear hW1 hbx
   go_quiet (fail)
   go_wp2
   go_ret
   exact ⟨⟨false,rfl,by simp,by simp [gvF,h0]⟩,below_drewN HB1.out _⟩
 ·obtain rfl:cop=false:=by cases cop;rfl;exact absurd rfl hc
  clear h hb1 F1 hb hl ha
  go_enter Tryz.func124,Tryz.ntmps124
  go_wp2
  rw [←hW1,←hbx]
  clear hW1 hbx
  go_quiet (fail)
  go_wp2
  go_ret
  exact ⟨⟨false,rfl,id,by simp [gvF]⟩,below_drewN HB1.out _⟩
end
end Go.Proofs.YtacpfpghokcdlaaGreatDoor.V
