/- Part 2. -/
import Derived.OpenShut
import Derived.Test.YthbbpooobaahiaaGreatDoorXB1
namespace Go.Proofs.YthbbpooobaahiaaGreatDoor
set_option maxRecDepth 100000
section
open Go.RowKit
structure Touch (S:Nat→Prop) (w w':World):Prop where
 os:w'.os=w.os
 tape:w'.tape=w.tape
 output:w'.output=w.output
 size:w.heap.size≤w'.heap.size
 block:∀ k,k<w.heap.size→¬S k→w'.heap[k]? = w.heap[k]?
theorem Touch.refl (S:Nat→Prop) (w:World):Touch S w w:=⟨rfl,rfl,rfl,Nat.le_refl _,fun _ _ _=>rfl⟩
theorem Touch.trans {S:Nat→Prop} {a b c:World} (h:Touch S a b) (k:Touch S b c):Touch S a c:=
 ⟨k.os.trans h.os,k.tape.trans h.tape,k.output.trans h.output,Nat.le_trans h.size k.size,fun i hi hs=>(k.block i (Nat.lt_of_lt_of_le hi h.size) hs).trans (h.block i hi hs)⟩
theorem Touch.trans' {S T:Nat→Prop} {a b c:World} (h:Touch S a b) (k:Touch T b c) (hT:∀ i,T i→i<a.heap.size→S i):Touch S a c:=
 ⟨k.os.trans h.os,k.tape.trans h.tape,k.output.trans h.output,Nat.le_trans h.size k.size,fun i hi hs=>(k.block i (Nat.lt_of_lt_of_le hi h.size) (fun ht=>hs (hT i ht hi))).trans (h.block i hi hs)⟩
theorem Touch.mono {S T:Nat→Prop} {a b:World} (h:Touch S a b) (hT:∀ i,S i→T i):Touch T a b:=
 ⟨h.os,h.tape,h.output,h.size,fun i hi hs=>h.block i hi fun s=>hs (hT i s)⟩
theorem Touch.drewN {S:Nat→Prop} {a w:World} (h:Touch S a w) (n:Nat):Touch S a (w.drewN n):=⟨h.os,h.tape,h.output,h.size,h.block⟩
theorem Touch.drew {S:Nat→Prop} {a w:World} (h:Touch S a w):Touch S a w.drew:=⟨h.os,h.tape,h.output,h.size,h.block⟩
theorem Touch.alloc {S:Nat→Prop} {a w:World} (h:Touch S a w) (o:Obj):Touch S a (w.alloc o):=
 h.trans ⟨rfl,rfl,rfl,by simp,fun k hk _=>Below.heap_alloc _ _ _ hk⟩
theorem Touch.setCell {S:Nat→Prop} {a w:World} (h:Touch S a w) (p:Addr) (u:Value) (hp:S p.block∨a.heap.size≤p.block):Touch S a (w.setCell p u):=
 ⟨h.os,h.tape,h.output,Nat.le_trans h.size (by simp [World.setCell]),fun k hk hs=>(Below.heap_setCell _ _ _ _ (fun e=>by subst e;rcases hp with hp | hp;exact hs hp;omega)).trans (h.block k hk hs)⟩
theorem Touch.grown {S:Nat→Prop} {a w w':World} {row:Option Nat} (h:Touch S a w) (hg:w.grownBy w' row) (hr:∀ k,row=some k→S k∨a.heap.size≤k):Touch S a w':=
 ⟨hg.os.trans h.os,hg.tape.trans h.tape,hg.output.trans h.output,Nat.le_trans h.size hg.size,fun k hk hs=>
  (hg.block k (Nat.lt_of_lt_of_le hk h.size) (fun e=>by rcases hr k e.symm with hp | hp;exact hs hp;omega)).trans (h.block k hk hs)⟩
theorem Touch.below {S:Nat→Prop} {a b:World} {B:Nat} (h:Touch S a b) (hB:B≤a.heap.size) (hS:∀ k,S k→B≤k):Below B a b:=
 ⟨h.os,h.tape,h.output,h.size,fun k hk=>h.block k (by omega) fun s=>by have:=hS k s;omega⟩
structure Ob (w:World) (base t p:Nat) (g:Option Nat) (bs:List Nat) (n:Nat):Prop where
 blk:∃ sv,w.heap[p]? = some (.cells #[sv,.int .i64 n] t (0,0))∧sv.ownBlock=g∧w.ownsRow base 5 1 sv bs.length (bs.map fun x:Nat=>Value.int .u8 (x:Int))
 hp:base≤p
 hb:Bs bs
 ht:t≠5
def Foot (p:Nat) (g:Option Nat) (k:Nat):Prop:=k=p∨g=some k
theorem ownsRow_touch {S:Nat→Prop} {w w':World} {base:Nat} {e:TypeId} {size:Nat} {v:Value} {n:Nat} {xs:List Value} (h:w.ownsRow base e size v n xs) (ht:Touch S w w') (hs:∀ k,v.ownBlock=some k→¬S k):w'.ownsRow base e size v n xs:=by
 refine ⟨h.1,?_⟩
 rcases h.2 with hn | ⟨g,cap,cur,rfl,hb,hgg,rest⟩
 ·exact .inl hn
 ·refine .inr ⟨g,cap,cur,rfl,hb,?_,rest⟩
  rw [ht.block g (Array.getElem?_eq_some_iff.1 hgg).1 (hs g (by simp [Value.ownBlock]))]
  exact hgg
theorem Ob.lt {w:World} {base t p:Nat} {g:Option Nat} {bs:List Nat} {n:Nat} (h:Ob w base t p g bs n):p<w.heap.size∧∀ k,g=some k→base≤k∧k<w.heap.size∧k≠p:=by
 obtain ⟨sv,h1,rfl,h3⟩:=h.blk
 refine ⟨lt_of_block h1,fun k hk=>⟨(h3.lt k hk).1,(h3.lt k hk).2,fun e=>?_⟩⟩
 rcases h3.2 with ⟨rfl,_⟩ | ⟨g',cap,cur,rfl,_,hh,_⟩
 ·simp [Value.ownBlock] at hk
 ·simp [Value.ownBlock] at hk
  subst hk;subst e
  rw [hh] at h1
  simp at h1
  exact h.ht h1.2.symm
theorem Ob.touch {S:Nat→Prop} {w w':World} {base t p:Nat} {g:Option Nat} {bs:List Nat} {n:Nat} (h:Ob w base t p g bs n) (ht:Touch S w w') (hs:∀ k,Foot p g k→¬S k):Ob w' base t p g bs n:=by
 obtain ⟨hp,hg⟩:=h.lt
 obtain ⟨sv,h1,h2,h3⟩:=h.blk
 exact ⟨⟨sv,(ht.block p hp (hs p (.inl rfl))).trans h1,h2,ownsRow_touch h3 ht fun k hk=>hs k (.inr (h2 ▸ hk))⟩,h.hp,h.hb,h.ht⟩
theorem Ob.drewN {w:World} {base t p:Nat} {g:Option Nat} {bs:List Nat} {n:Nat} (h:Ob w base t p g bs n) (m:Nat):Ob (w.drewN m) base t p g bs n:=⟨h.blk,h.hp,h.hb,h.ht⟩
structure Seen (w:World) (base p:Nat) (g:Option Nat) (bs:List Nat) (n:Nat) (sv:Value):Prop where
 c0:w.cell? ⟨p,0,none⟩=some sv
 c1:w.cell? ⟨p,1,none⟩=some (.int .i64 n)
 f0:w.frozen? ⟨p,0,none⟩=false
 f1:w.frozen? ⟨p,1,none⟩=false
 own:w.ownsRow base 5 1 sv bs.length (bs.map fun x:Nat=>Value.int .u8 (x:Int))
 hg:sv.ownBlock=g
theorem row_cell {w:World} {base g cap:Nat} {bs:List Nat} (h:w.ownsRow base 5 1 (.slice (some ⟨g,0,none⟩) bs.length cap) bs.length (bs.map fun x:Nat=>Value.int .u8 (x:Int))) (j:Nat) (hj:j<bs.length):w.cell? ⟨g,j,none⟩=some (.int .u8 (byt bs j)):=by
 rw [h.cellAt j (by omega)]
 simp [byt,List.getD,hj]
theorem Ob.see {w:World} {base t p:Nat} {g:Option Nat} {bs:List Nat} {n:Nat} (h:Ob w base t p g bs n) :
  (Seen w base p g bs n (.slice none 0 0)∧bs=[]∧g=none) ∨
  ∃ g0 cap,Seen w base p g bs n (.slice (some ⟨g0,0,none⟩) bs.length cap)∧g=some g0∧bs.length≤cap∧cap≤maxLen:=by
 obtain ⟨sv,h1,h2,h3⟩:=h.blk
 obtain ⟨c0,c1,f0,f1⟩:=two_cell h1
 have hs:Seen w base p g bs n sv:=⟨c0,c1,f0,f1,h3,h2⟩
 rcases h3.2 with ⟨rfl,hl⟩ | ⟨g',cap,cur,rfl,_,hh,hc,hm,_⟩
 ·exact .inl ⟨hs,List.eq_nil_of_length_eq_zero hl,by simpa [Value.ownBlock] using h2.symm⟩
 ·exact .inr ⟨g',cap,hs,by simpa [Value.ownBlock] using h2.symm,hc,hm⟩
theorem two_set1 {w:World} {p:Nat} {a b u:Value} {t:TypeId} (h:w.heap[p]? = some (.cells #[a,b] t (0,0))):(w.setCell ⟨p,1,none⟩ u).heap[p]? = some (.cells #[a,u] t (0,0)):=by
 have hlt:=lt_of_block h
 have h':w.heap[p] = .cells #[a,b] t (0,0):=by simpa [Array.getElem?_eq_getElem hlt] using h
 show (w.heap.modify p _)[p]? = _
 rw [Array.getElem?_eq_getElem (by simpa using hlt),Array.getElem_modify_self,h']
 rfl
theorem Ob.set1 {w:World} {base t p:Nat} {g:Option Nat} {bs:List Nat} {n:Nat} (h:Ob w base t p g bs n) (m:Nat):Ob (w.setCell ⟨p,1,none⟩ (.int .i64 m)) base t p g bs m:=by
 have hg:=h.lt.2
 obtain ⟨sv,h1,h2,h3⟩:=h.blk
 exact ⟨⟨sv,two_set1 h1,h2,ownsRow_setCell_other h3 (fun e=>by have:=hg p (h2 ▸ e);omega) _⟩,h.hp,h.hb,h.ht⟩
def pk (bs:List Nat) (at_ n:Nat):Nat:=num bs/2^at_%2^n
theorem peek_nil (p n:Nat) (w:World) (hn:n≤32)
  (
  h0:w.cell? ⟨p,0,none⟩=some (.slice none 0 0)) (h1:w.cell? ⟨p,1,none⟩=some (.int .i64 0)) :
  Calls Tryz.prog 147 #[.pointer (some ⟨p,0,none⟩),.int .i64 n] w fun e w'=>e = .returned (.int .u32 ((pk [] 0 n:Nat):Int))∧w=w':=by
 have HL:=Lib.hid (show IntKind.u32.wrap ((0%2^n:Nat):Int)=((pk [] 0 n:Nat):Int) by unfold pk;simp [num];rfl)
 go_enter Tryz.func147,Tryz.ntmps147
 go_wp2_with (go_at_call 161;refine (isWidth_yes n _ (by omega) (by omega)).mono ?_;rintro e w' ⟨rfl,rfl⟩)
 refine wp_loop_rounds 1 ?_
 rw [rounds_succ]
 go_wp2_with (go_at_call 162;refine (lowest_int _ 0 n _ (by simp) hn (by omega)).mono ?_;rintro e w' ⟨rfl,rfl⟩)
 go_ret
 exact ⟨ret_int HL.out,rfl⟩
theorem Ob.peek {w:World} {base p:Nat} {g:Option Nat} {bs:List Nat} {at_:Nat} (h:Ob w base 186 p g bs at_) (hl:bs.length≤1000000000) (ha:at_≤8*bs.length) (n:Nat) (hn:n≤32) :
  Calls Tryz.prog 147 #[.pointer (some ⟨p,0,none⟩),.int .i64 n] w fun e w'=>e = .returned (.int .u32 ((pk bs at_ n:Nat):Int))∧w=w':=by
 rcases h.see with ⟨s,rfl,rfl⟩ | ⟨g0,cap,s,rfl,hc,hm⟩
 ·have:at_=0:=by simpa using ha
  subst this
  exact peek_nil p n w hn s.c0 s.c1
 ·exact peek_yes p g0 at_ n bs.length cap bs w hl hc rfl h.hb ha hn s.c0 s.c1 fun j hj=>row_cell s.own j hj
def Moved (w:World) (base t p:Nat) (g:Option Nat) (bs:List Nat) (m:Nat) (w':World):Prop:=
 Ob w' base t p g bs m∧Touch (fun k=>k=p) w w'
theorem Moved.mk' {w:World} {base t p:Nat} {g:Option Nat} {bs:List Nat} {n:Nat} (h:Ob w base t p g bs n) (nq m:Nat) {x:Int} (hx:x=(m:Int)) :
  Moved w base t p g bs m ((w.drewN nq).setCell ⟨p,1,none⟩ (.int .i64 x)):=by
 subst hx
 exact ⟨(h.drewN nq).set1 m,((Touch.refl _ w).drewN nq).setCell _ _ (.inl rfl)⟩
theorem Ob.left {w:World} {base p:Nat} {g:Option Nat} {bs:List Nat} {at_:Nat} (h:Ob w base 186 p g bs at_) (hl:bs.length≤1000000000) (ha:at_≤8*bs.length) :
  Calls Tryz.prog 163 #[.pointer (some ⟨p,0,none⟩)] w fun e w'=>e = .returned (.int .i64 (8*bs.length-at_))∧∃ nq,w'=w.drewN nq:=by
 rcases h.see with ⟨s,rfl,rfl⟩ | ⟨g0,cap,s,rfl,hc,hm⟩
 ·exact left_walk p at_ none 0 0 w (by omega) (by omega) (by simp at ha;omega) s.c0 s.c1
 ·exact left_walk p at_ _ bs.length cap w hl (by omega) (by omega) s.c0 s.c1
theorem Ob.at {w:World} {base t p:Nat} {g:Option Nat} {bs:List Nat} {at_:Nat} (h:Ob w base t p g bs at_) :
  Calls Tryz.prog 101 #[.pointer (some ⟨p,0,none⟩)] w fun e w'=>e = .returned (.int .i64 at_)∧w=w':=by
 obtain ⟨sv,h1,_⟩:=h.blk
 exact at_walk p at_ w (two_cell h1).2.1
theorem Ob.skip_yes {w:World} {base p:Nat} {g:Option Nat} {bs:List Nat} {at_:Nat} (h:Ob w base 186 p g bs at_) (hl:bs.length≤1000000000) (n:Nat) (hn:at_+n≤8*bs.length) :
  Calls Tryz.prog 148 #[.pointer (some ⟨p,0,none⟩),.int .i64 n] w fun e w'=>e = .returned (.bool true)∧Moved w base 186 p g bs (at_+n) w':=by
 rcases h.see with ⟨s,rfl,rfl⟩ | ⟨g0,cap,s,rfl,hc,hm⟩
 ·simp only [List.length_nil] at hn
  exact (YthbbpooobaahiaaGreatDoor.skip_yes p n at_ none 0 0 w (by omega) (by omega) (by omega) (by omega) s.c0 s.c1 s.f1).mono fun e w' ⟨he,nq,hw⟩=>⟨he,hw ▸ Moved.mk' h nq _ (by omega)⟩
 ·exact (YthbbpooobaahiaaGreatDoor.skip_yes p n at_ _ bs.length cap w hl (by omega) (by omega) (by omega) s.c0 s.c1 s.f1).mono fun e w' ⟨he,nq,hw⟩=>⟨he,hw ▸ Moved.mk' h nq _ (by omega)⟩
theorem Ob.skip_no {w:World} {base p:Nat} {g:Option Nat} {bs:List Nat} {at_:Nat} (h:Ob w base 186 p g bs at_) (hl:bs.length≤1000000000) (ha:at_≤8*bs.length) (n:Int) (hn:n<0∨8*(bs.length:Int)-at_<n) :
  Calls Tryz.prog 148 #[.pointer (some ⟨p,0,none⟩),.int .i64 n] w fun e w'=>e = .returned (.bool false)∧∃ nq,w'=w.drewN nq:=by
 rcases h.see with ⟨s,rfl,rfl⟩ | ⟨g0,cap,s,rfl,hc,hm⟩
 ·simp only [List.length_nil] at hn ha
  exact YthbbpooobaahiaaGreatDoor.skip_no p n at_ none 0 0 w (by omega) (by omega) (by omega) (by omega) s.c0 s.c1
 ·exact YthbbpooobaahiaaGreatDoor.skip_no p n at_ _ bs.length cap w hl (by omega) (by omega) (by omega) s.c0 s.c1
theorem Ob.bits_yes {w:World} {base p:Nat} {g:Option Nat} {bs:List Nat} {at_:Nat} (h:Ob w base 186 p g bs at_) (hl:bs.length≤1000000000) (n:Nat) (hn32:n≤32) (hn:at_+n≤8*bs.length) :
  Calls Tryz.prog 134 #[.pointer (some ⟨p,0,none⟩),.int .i64 n] w fun e w'=>e = .returned (.tuple #[.int .u32 ((pk bs at_ n:Nat):Int),.bool true])∧Moved w base 186 p g bs (at_+n) w':=by
 have H:=Lib.hid h
 clear h
 go_enter Tryz.func134,Tryz.ntmps134
 go_wp2_with (first
  | (go_at_call 147;refine (H.out.peek hl (by omega) n hn32).mono ?_;rintro e w' ⟨rfl,rfl⟩)
  | (go_at_call 148;refine (H.out.skip_yes hl n hn).mono ?_;rintro e w' ⟨rfl,hm⟩))
 go_ret2
 exact ⟨rfl,hm⟩
theorem Ob.bits_no {w:World} {base p:Nat} {g:Option Nat} {bs:List Nat} {at_:Nat} (h:Ob w base 186 p g bs at_) (hl:bs.length≤1000000000) (ha:at_≤8*bs.length) (n:Int) (hn:n<0∨32<n∨8*(bs.length:Int)-at_<n) :
  Calls Tryz.prog 134 #[.pointer (some ⟨p,0,none⟩),.int .i64 n] w fun e w'=>e = .returned (.tuple #[.int .u32 0,.bool false])∧∃ nq,w'=w.drewN nq:=by
 have H:=Lib.hid h
 clear h
 by_cases h32:32<n
 ·go_enter Tryz.func134,Tryz.ntmps134
  go_wp2
  go_ret2
  exact ⟨rfl,0,rfl⟩
 ·by_cases h0:n<0
  ·go_enter Tryz.func134,Tryz.ntmps134
   go_wp2_with (first
    | (go_at_call 147;refine (peek_no p n _ (.inl h0)).mono ?_;rintro e w' ⟨rfl,rfl⟩)
    | (go_at_call 148;refine (H.out.skip_no hl ha n (.inl h0)).mono ?_;rintro e w' ⟨rfl,nq,rfl⟩))
   go_ret2
   exact ⟨rfl,_,rfl⟩
  ·obtain ⟨m,rfl⟩:=Int.eq_ofNat_of_zero_le (show 0≤n by omega)
   have hbad:8*(bs.length:Int)-at_<m:=by omega
   clear hn
   go_enter Tryz.func134,Tryz.ntmps134
   go_wp2_with (first
    | (go_at_call 147;refine (H.out.peek hl ha m (by omega)).mono ?_;rintro e w' ⟨rfl,rfl⟩)
    | (go_at_call 148;refine (H.out.skip_no hl ha m (.inr hbad)).mono ?_;rintro e w' ⟨rfl,nq,rfl⟩))
   go_ret2
   exact ⟨rfl,_,rfl⟩
def up8 (n:Nat):Nat:=(n+7)/8*8
theorem Ob.ralign {w:World} {base p:Nat} {g:Option Nat} {bs:List Nat} {at_:Nat} (h:Ob w base 186 p g bs at_) (ha:at_≤10000000000) :
  Calls Tryz.prog 149 #[.pointer (some ⟨p,0,none⟩)] w fun e w'=>e = .returned (.tuple #[])∧Moved w base 186 p g bs (up8 at_) w':=by
 obtain ⟨sv,h1,_⟩:=h.blk
 obtain ⟨c0,c1,f0,f1⟩:=two_cell h1
 have HM:=Lib.hid (Moved.mk' h 0 (up8 at_) (x:=((at_:Int)+7)/8*8) (by unfold up8;omega))
 clear h1 h
 go_enter Tryz.func149,Tryz.ntmps149
 go_wp2_with (go_at_call 164;refine (bytesFor_any at_ _ (by omega) (by omega)).mono ?_;rintro e w' ⟨rfl,rfl⟩)
 go_end0
 exact ⟨rfl,HM.out⟩
theorem Tryz.info5:(Tryz.prog.info? 5).map (fun i=>(i.zero,i.size,i.bytes))=some (some (.int .u8 0),1,1):=by kernel_rfl
def u8s (l:List Nat):List Value:=l.map fun x:Nat=>Value.int .u8 (x:Int)
theorem u8s_len (l:List Nat):(u8s l).length=l.length:=by simp [u8s]
theorem u8s_one (l:List Nat):∀ u∈u8s l,u.oneCell'=true:=by
 intro u hu
 obtain ⟨_,_,rfl⟩:=List.mem_map.1 hu
 rfl
def BySl (w:World) (v:Value) (xs:List Nat):Prop:=
 (v = .slice none 0 0∧xs=[])∨∃ ad c,v = .slice (some ad) xs.length c∧xs.length≤c∧∀ j u,(u8s xs)[j]? = some u→w.cell? (ad.add j)=some u
def Made (w:World) (base:Nat) (xs:List Nat) (e:Ending) (w':World):Prop:=
 ∃ a c,e = .returned (.slice a xs.length c)∧w'.ownsRow base 5 1 (.slice a xs.length c) xs.length (u8s xs)∧(∀ k,(Value.slice a xs.length c).ownBlock=some k→w.heap.size≤k)∧Touch (fun _=>False) w w'
theorem own_shape {w:World} {base:Nat} {e:TypeId} {size:Nat} {v:Value} {n:Nat} {xs:List Value} (h:w.ownsRow base e size v n xs):∃ a c,v = .slice a n c:=by
 rcases h.2 with ⟨rfl,rfl⟩ | ⟨g,cap,cur,rfl,_⟩
 ·exact ⟨_,_,rfl⟩
 ·exact ⟨_,_,rfl⟩
theorem own_empty (w:World):(w.alloc (.cells #[] 5)).ownsRow w.heap.size 5 1 (.slice (some ⟨w.heap.size,0,none⟩) 0 0) 0 []:=
 World.ownsRow_made w #[] 0 (Nat.le_refl _) (Nat.zero_le _) rfl
theorem own_base {w:World} {base base':Nat} {e:TypeId} {size:Nat} {v:Value} {n:Nat} {xs:List Value} (h:w.ownsRow base e size v n xs) (hb:base'≤base):w.ownsRow base' e size v n xs:=by
 refine ⟨h.1,?_⟩
 rcases h.2 with h2 | ⟨g,cap,cur,hv,hg,r⟩
 ·exact .inl h2
 ·exact .inr ⟨g,cap,cur,hv,Nat.le_trans hb hg,r⟩
set_option maxHeartbeats 400000 in
theorem clone_some (ad:Addr) (c:Nat) (xs:List Nat) (w:World) (hl:xs.length≤1000000000)
  (hc:∀ j u,(u8s xs)[j]? = some u→w.cell? (ad.add j)=some u) :
  Calls Tryz.prog 71 #[.slice (some ad) xs.length c] w (Made w w.heap.size xs):=by
 obtain ⟨i0,hi,hz0,hz1,hz2⟩:=info_parts Tryz.info5
 have hnil:=fun W=>Lib.run_eql_slice_nil (P:=Tryz.prog) W 22 5 (some ad) xs.length c 0 0 Tryz.underlying22
 have HC:=Lib.hid hc
 clear hc
 go_enter Tryz.func71,Tryz.ntmps71
 go_wp2_with (at_builtin;refine wpList_append_own _ rfl (.tmp 5) (.tmp 6) 22 rfl w.heap.size 5 i0 (.int .u8 0) 1 1 Tryz.underlying22 hi hz0 hz1 hz2 rfl (by decide) (.slice (some ⟨w.heap.size,0,none⟩) 0 0) 0 [] rfl (own_empty w) ad xs.length c (u8s xs) rfl (by simp [u8s_len]) ?c1 (u8s_one xs) (by unfold maxLen;omega) (by omega) (by simp) ?c2)
 case c1=>
  intro j u hu
  have h:=HC.out j u hu
  have hlt:=World.block_lt_of_cell? w _ h
  rw [World.cell?_alloc_lt _ _ _ hlt]
  exact h
 case c2=>
  intro v' w' hown hgrow _
  have hown:w'.ownsRow w.heap.size 5 1 v' xs.length (u8s xs):=by simpa using hown
  obtain ⟨a,c',rfl⟩:=own_shape hown
  have HO:=Lib.hid hown
  have HG:=Lib.hid hgrow
  clear hown hgrow
  go_wp2
  go_ret
  refine ⟨a,c',rfl,HO.out,fun k hk=>(HO.out.lt k hk).1,((Touch.refl _ w).alloc _).grown HG.out fun k hk=>?_⟩
  cases hk
  exact .inr (Nat.le_refl _)
theorem clone_nil (w:World) :
  Calls Tryz.prog 71 #[.slice none 0 0] w (Made w w.heap.size []):=by
 have hnil:=fun W=>Lib.run_eql_slice_nil (P:=Tryz.prog) W 22 5 none 0 0 0 0 Tryz.underlying22
 go_enter Tryz.func71,Tryz.ntmps71
 go_wp2
 go_ret
 exact ⟨none,0,rfl,World.ownsRow_nil _ _ _ _,fun k hk=>by simp [Value.ownBlock] at hk,Touch.refl _ _⟩
theorem BySl.at {w:World} {v:Value} {xs:List Nat} (h:BySl w v xs) (hp:0<xs.length) :
  ∃ b off c,v = .slice (some ⟨b,off,none⟩) xs.length c∧xs.length≤c∧∀ j,j<xs.length→w.cell? ⟨b,off+j,none⟩=some (.int .u8 (byt xs j)):=by
 rcases h with ⟨_,rfl⟩ | ⟨ad,c,rfl,hc,h⟩
 ·simp at hp
 ·have h':∀ i,i<(xs.map fun x:Nat=>(x:Int)).length→w.cell? (ad.add i)=some (.int .u8 ((xs.map fun x:Nat=>(x:Int)).getD i 0)):=by
   intro i hi
   have hi':i<xs.length:=by simpa using hi
   refine h i _ ?_
   simp [u8s,List.getD,hi']
  obtain ⟨b,off,rfl,h2⟩:=ints_at h' (by simpa using hp)
  refine ⟨b,off,c,rfl,hc,fun j hj=>?_⟩
  rw [h2 j (by simpa using hj)]
  simp [byt,List.getD,hj]
theorem BySl.own {w:World} {base:Nat} {v:Value} {xs:List Nat} (h:w.ownsRow base 5 1 v xs.length (u8s xs)):BySl w v xs:=by
 rcases h.2 with ⟨rfl,hn⟩ | ⟨g,cap,cur,rfl,hb,hh,hnc,r⟩
 ·exact .inl ⟨rfl,List.eq_nil_of_length_eq_zero hn⟩
 ·exact .inr ⟨⟨g,0,none⟩,cap,rfl,hnc,h.cells (by simp [Value.ownBlock])⟩
theorem BySl.touch {S:Nat→Prop} {w w':World} {v:Value} {xs:List Nat} (h:BySl w v xs) (ht:Touch S w w') (hs:∀ k,v.ownBlock=some k→¬S k):BySl w' v xs:=by
 rcases h with h | ⟨ad,c,rfl,hc,h⟩
 ·exact .inl h
 ·refine .inr ⟨ad,c,rfl,hc,fun j u hu=>?_⟩
  have h1:=h j u hu
  have hlt:=World.block_lt_of_cell? w _ h1
  have hb:(ad.add j).block=ad.block:=by unfold Addr.add;split <;> rfl
  rw [World.cell?_of_block (w:=w) (ht.block _ hlt (by rw [hb];exact hs _ (by simp [Value.ownBlock])))]
  exact h1
theorem clone_any {w:World} {v:Value} {xs:List Nat} (h:BySl w v xs) (hl:xs.length≤1000000000):Calls Tryz.prog 71 #[v] w (Made w w.heap.size xs):=by
 rcases h with ⟨rfl,rfl⟩ | ⟨ad,c,rfl,hc,h⟩
 ·exact clone_nil w
 ·exact clone_some ad c xs w hl h
def MadeOb (w:World) (base t:Nat) (bs:List Nat) (n:Nat) (e:Ending) (w':World):Prop:=
 ∃ p g,e = .returned (.pointer (some ⟨p,0,none⟩))∧Ob w' base t p g bs n∧Touch (fun _=>False) w w'
theorem Ob.made {w:World} {base t:Nat} {sv:Value} {bs:List Nat} (n:Nat) (ht:t≠5) (hb:Bs bs) (hown:w.ownsRow base 5 1 sv bs.length (u8s bs)) (hbase:base≤w.heap.size) {x:Int} (hx:x=(n:Int)) :
  Ob (w.alloc (.cells #[sv,.int .i64 x] t)) base t w.heap.size sv.ownBlock bs n:=by
 subst hx
 exact ⟨⟨sv,heap_alloc_new w _,rfl,hown.alloc _⟩,hbase,hb,ht⟩
theorem newReader_any {w:World} {v:Value} {xs:List Nat} (h:BySl w v xs) (hb:Bs xs) (hl:xs.length≤1000000000):Calls Tryz.prog 98 #[v] w (MadeOb w w.heap.size 186 xs 0):=by
 have H:=Lib.hid h
 have HB:=Lib.hid hb
 clear h hb
 go_enter Tryz.func98,Tryz.ntmps98
 go_wp2_with (go_at_call 71;refine (clone_any H.out hl).mono ?_;rintro e w' ⟨a,c,rfl,hown,hlow,ht⟩)
 have hsz:=ht.size
 go_ret
 exact ⟨w'.heap.size,_,rfl,Ob.made 0 (by decide) HB.out hown hsz rfl,ht.alloc _⟩
theorem same_len {v v':Value} {n m c c':Nat} {a a':Option Addr} (w:World) (hv:v = .slice a n c) (hv':v' = .slice a' m c') (h:n≠m) :
  Calls Tryz.prog 14 #[v,v'] w fun e w'=>e = .returned (.bool false)∧∃ nq,w'=w.drewN nq:=by
 subst hv;subst hv'
 have h1:((n:Int) == (m:Int))=false:=by simp;omega
 have h2:((n:Int) != (m:Int))=true:=by simp [bne];omega
 go_enter Tryz.func14,Tryz.ntmps14
 go_wp2
 go_ret
 exact ⟨rfl,0,rfl⟩
theorem same_nil {v v':Value} {c c':Nat} {a a':Option Addr} (w:World) (hv:v = .slice a 0 c) (hv':v' = .slice a' 0 c') :
  Calls Tryz.prog 14 #[v,v'] w fun e w'=>e = .returned (.bool true)∧∃ nq,w'=w.drewN nq:=by
 subst hv;subst hv'
 go_enter Tryz.func14,Tryz.ntmps14
 go_wp2
 refine wp_loop_rounds 1 ?_
 rw [rounds_succ]
 go_wp2
 go_ret
 exact ⟨rfl,0,rfl⟩
set_option maxHeartbeats 800000 in
theorem same_some (b off c b' off' c' len:Nat) (xs ys:List Nat) (w:World) (hx:xs.length=len) (hy:ys.length=len) (hl:len≤1000000000)
  (hc:∀ j,j<len→w.cell? ⟨b,off+j,none⟩=some (.int .u8 (byt xs j))) (hc':∀ j,j<len→w.cell? ⟨b',off'+j,none⟩=some (.int .u8 (byt ys j))) :
  Calls Tryz.prog 14 #[.slice (some ⟨b,off,none⟩) len c,.slice (some ⟨b',off',none⟩) len c'] w fun e w'=>e = .returned (.bool (decide (xs=ys)))∧∃ nq,w'=w.drewN nq:=by
 have HX:=Lib.hid hx
 have HY:=Lib.hid hy
 have HC:=Lib.hid hc
 have HC':=Lib.hid hc'
 clear hc hc' hx hy
 go_enter Tryz.func14,Tryz.ntmps14
 go_wp2
 go_loopw [5] (fun i wr=>∃ k nq:Nat,k≤len∧i = .int .i64 k∧(∀ j,j<k→byt xs j=byt ys j)∧wr=w.drewN nq) (fun i _=>len-(intOf i).toNat)
 case atStart=>exact ⟨0,0,Nat.zero_le _,rfl,fun j hj=>absurd hj (by omega),rfl⟩
 case round=>
  obtain ⟨k,nq,hk,rfl,hall,rfl⟩:=hrel
  have HA:=Lib.hid hall
  clear hall
  by_cases hlt:k<len
  ·have h1:=HC.out k hlt
   have h2:=HC'.out k hlt
   by_cases he:byt xs k=byt ys k
   ·have e1:((byt xs k:Int) == (byt ys k:Int))=true:=by simp [he]
    have e2:((byt xs k:Int) != (byt ys k:Int))=false:=by simp [he]
    go_wp2
    go_quiet (fail)
    go_wp2
    go_roundw
    case rel=>exact ⟨k+1,_,by omega,by go_num,fun j hj=>by
      by_cases hjk:j=k
      ·subst hjk;exact he
      ·exact HA.out j (by omega),rfl⟩
    case measure=>simp [intOf];omega
   ·have e1:((byt xs k:Int) == (byt ys k:Int))=false:=by simp;omega
    have e2:((byt xs k:Int) != (byt ys k:Int))=true:=by simp [bne];omega
    have HE:=Lib.hid he
    clear he
    go_wp2
    go_quiet (fail)
    go_wp2
    go_ret
    refine ⟨?_,_,World.drewN_drewN _ _ _⟩
    have:¬xs=ys:=fun e=>HE.out (by rw [e])
    simp [this]
  ·have hk':k=len:=by omega
   have hxy:xs=ys:=by
    apply List.ext_getElem (by rw [HX.out,HY.out])
    intro j h1 h2
    have:=HA.out j (by have:=HX.out;omega)
    simpa [byt,List.getD,h1,h2] using this
   have HXY:=Lib.hid hxy
   clear hxy hk'
   go_wp2
   go_ret
   exact ⟨by simp [HXY.out],_,rfl⟩
theorem same_any {w:World} {v v':Value} {xs ys:List Nat} (h:BySl w v xs) (h':BySl w v' ys) (hl:xs.length≤1000000000) :
  Calls Tryz.prog 14 #[v,v'] w fun e w'=>e = .returned (.bool (decide (xs=ys)))∧∃ nq,w'=w.drewN nq:=by
 have shape:∀ {v:Value} {xs:List Nat},BySl w v xs→∃ a c,v = .slice a xs.length c:=by
  intro v xs h
  rcases h with ⟨rfl,rfl⟩ | ⟨ad,c,rfl,_⟩
  ·exact ⟨_,_,rfl⟩
  ·exact ⟨_,_,rfl⟩
 obtain ⟨a,c,e⟩:=shape h
 obtain ⟨a',c',e'⟩:=shape h'
 by_cases hlen:xs.length=ys.length
 ·by_cases h0:xs.length=0
  ·have hx:=List.eq_nil_of_length_eq_zero h0
   have hy:=List.eq_nil_of_length_eq_zero (hlen ▸ h0)
   subst hx;subst hy
   simpa using same_nil w e e'
  ·obtain ⟨b,off,c,rfl,_,hc⟩:=h.at (by omega)
   obtain ⟨b',off',c',rfl,_,hc'⟩:=h'.at (by omega)
   rw [←hlen]
   exact same_some b off c b' off' c' xs.length xs ys w rfl hlen.symm hl hc (fun j hj=>hc' j (by omega))
 ·have:¬xs=ys:=fun e=>hlen (by rw [e])
  simpa [this] using same_len w e e' hlen
def GotBytes (w:World) (base p:Nat) (g:Option Nat) (bs:List Nat) (m:Nat) (xs:List Nat) (e:Ending) (w':World):Prop:=
 ∃ a c,e = .returned (.tuple #[.slice a xs.length c,.bool true])∧w'.ownsRow w.heap.size 5 1 (.slice a xs.length c) xs.length (u8s xs)∧(∀ k,(Value.slice a xs.length c).ownBlock=some k→w.heap.size≤k)∧Ob w' base 186 p g bs m∧Touch (fun k=>k=p) w w'
theorem cut_own {w:World} {base g cap:Nat} {bs:List Nat} (h:w.ownsRow base 5 1 (.slice (some ⟨g,0,none⟩) bs.length cap) bs.length (u8s bs)) (f n:Nat) (hf:f+n≤bs.length) (c:Nat) (hc:n≤c) :
  BySl w (.slice (some ⟨g,f,none⟩) n c) ((bs.drop f).take n):=by
 have hl:((bs.drop f).take n).length=n:=by rw [List.length_take,List.length_drop];omega
 refine .inr ⟨⟨g,f,none⟩,c,by rw [hl],by omega,fun j u hu=>?_⟩
 have hj:j<n:=by
  have:=(List.getElem?_eq_some_iff.1 hu).1
  rw [u8s_len,hl] at this;exact this
 rw [Addr.add_lit,row_cell h (f+j) (by omega)]
 rw [←hu]
 simp [u8s,byt,List.getD,hj,show f+j<bs.length by omega]
theorem bytesFor_nat (n:Int) (m:Nat) (w:World) (h0:0≤n) (h1:n≤100000000000) (hm:(n+7)/8=(m:Int)) :
  Calls Tryz.prog 164 #[.int .i64 n] w fun e w'=>e = .returned (.int .i64 m)∧w=w':=by
 have h:=bytesFor_any n w h0 h1
 rw [hm] at h
 exact h
set_option maxHeartbeats 400000 in
theorem bytes_yes {w:World} {base p g0 cap:Nat} {bs:List Nat} {at_:Nat} (h:Ob w base 186 p (some g0) bs at_) (hl:bs.length≤1000000000) (ha:at_≤8*bs.length)
  (s:Seen w base p (some g0) bs at_ (.slice (some ⟨g0,0,none⟩) bs.length cap)) (hc:bs.length≤cap) (n first:Nat) (hfi:((at_:Int)+7)/8=(first:Int)) (hn:first+n≤bs.length) :
  Calls Tryz.prog 150 #[.pointer (some ⟨p,0,none⟩),.int .i64 n] w (GotBytes w base p (some g0) bs ((first+n)*8) ((bs.drop first).take n)):=by
 have hgp:=h.lt.2 g0 rfl
 obtain ⟨c0,c1,f0,f1,own,hg⟩:=s
 obtain ⟨hO,hT⟩:=Moved.mk' h 0 ((first+n)*8) (x:=((first:Int)+n)*8) (by omega)
 rw [World.drewN_zero] at hO hT
 have hlx:((bs.drop first).take n).length=n:=by rw [List.length_take,List.length_drop];omega
 have hcut:first<cap→BySl (w.setCell ⟨p,1,none⟩ (.int .i64 (((first:Int)+n)*8))) (.slice (some ⟨g0,first,none⟩) n (cap-first)) ((bs.drop first).take n):=fun hlt=>
  (cut_own own first n hn (cap-first) (by omega)).touch hT (fun k hk=>by simp [Value.ownBlock] at hk;omega)
 have hcut0:n=0→BySl (w.setCell ⟨p,1,none⟩ (.int .i64 (((first:Int)+n)*8))) (.slice (some ⟨g0,0,none⟩) n 0) ((bs.drop first).take n):=fun h0=>by
  subst h0
  exact .inr ⟨⟨g0,0,none⟩,0,by simp,by simp,fun j u hu=>by simp [u8s] at hu⟩
 have HFE:=Lib.hid hfi
 have HO:=Lib.hid hO
 have HT:=Lib.hid hT
 have HLX:=Lib.hid hlx
 have HC:=Lib.hid hcut
 have HC0:=Lib.hid hcut0
 clear hfi hO hT own h hlx hcut hcut0 hg hgp
 by_cases hcap:cap=first
 ·have hn0:n=0:=by omega
  have HN0:=Lib.hid hn0
  clear hn0
  have hnn:((n:Int))≤0:=by have:=HN0.out;omega
  go_enter Tryz.func150,Tryz.ntmps150
  go_wp2_with (first
   | (go_at_call 164;refine (bytesFor_nat at_ first _ (by omega) (by omega) HFE.out).mono ?_;rintro e w' ⟨rfl,rfl⟩)
   | (go_at_call 71;go_must (refine (clone_any (HC0.out HN0.out) (by have:=HLX.out;omega)).mono ?_);rintro e w' ⟨a,c,rfl,hown,hlow,ht⟩))
  go_ret2
  refine ⟨a,c,by simp,own_base hown (by simp),fun k hk=>by have:=hlow k hk;simpa using this,HO.out.touch ht (fun _ _ h=>h),HT.out.trans (ht.mono fun _ h=>h.elim)⟩
 ·have hlt:first<cap:=by omega
  go_enter Tryz.func150,Tryz.ntmps150
  go_wp2_with (first
   | (go_at_call 164;refine (bytesFor_nat at_ first _ (by omega) (by omega) HFE.out).mono ?_;rintro e w' ⟨rfl,rfl⟩)
   | (go_at_call 71;go_must (refine (clone_any (HC.out hlt) (by have:=HLX.out;omega)).mono ?_);rintro e w' ⟨a,c,rfl,hown,hlow,ht⟩))
  go_ret2
  refine ⟨a,c,by simp,own_base hown (by simp),fun k hk=>by have:=hlow k hk;simpa using this,HO.out.touch ht (fun _ _ h=>h),HT.out.trans (ht.mono fun _ h=>h.elim)⟩
theorem bytes_nil {w:World} {base p:Nat} (h:Ob w base 186 p none [] 0) (s:Seen w base p none [] 0 (.slice none 0 0)) :
  Calls Tryz.prog 150 #[.pointer (some ⟨p,0,none⟩),.int .i64 0] w (GotBytes w base p none [] 0 []):=by
 obtain ⟨c0,c1,f0,f1,own,hg⟩:=s
 obtain ⟨hO,hT⟩:=Moved.mk' h 0 0 (x:=0) (by omega)
 rw [World.drewN_zero] at hO hT
 have HO:=Lib.hid hO
 have HT:=Lib.hid hT
 clear hO hT own h hg
 go_enter Tryz.func150,Tryz.ntmps150
 go_wp2_with (first
  | (go_at_call 164;refine (bytesFor_nat 0 0 _ (by omega) (by omega) (by omega)).mono ?_;rintro e w' ⟨rfl,rfl⟩)
  | (go_at_call 71;go_must (refine (clone_nil _).mono ?_);rintro e w' ⟨a,c,rfl,hown,hlow,ht⟩))
 go_ret2
 refine ⟨a,c,rfl,own_base hown (by simp),fun k hk=>by have:=hlow k hk;simpa using this,HO.out.touch ht (fun _ _ h=>h),HT.out.trans (ht.mono fun _ h=>h.elim)⟩
theorem Ob.bytes_yes {w:World} {base p:Nat} {g:Option Nat} {bs:List Nat} {at_:Nat} (h:Ob w base 186 p g bs at_) (hl:bs.length≤1000000000) (ha:at_≤8*bs.length) (n:Nat) (hn:(at_+7)/8+n≤bs.length) :
  Calls Tryz.prog 150 #[.pointer (some ⟨p,0,none⟩),.int .i64 n] w (GotBytes w base p g bs (((at_+7)/8+n)*8) ((bs.drop ((at_+7)/8)).take n)):=by
 rcases h.see with ⟨s,rfl,rfl⟩ | ⟨g0,cap,s,rfl,hc,hm⟩
 ·have h0:at_=0:=by simpa using ha
  have h1:n=0:=by simp at hn;omega
  subst h0;subst h1
  exact bytes_nil h s
 ·exact YthbbpooobaahiaaGreatDoor.bytes_yes h hl ha s hc n _ (by omega) hn
theorem bytes_no {w:World} {p len cap at_:Nat} {ao:Option Addr} (c0:w.cell? ⟨p,0,none⟩=some (.slice ao len cap)) (c1:w.cell? ⟨p,1,none⟩=some (.int .i64 at_)) (hl:len≤1000000000) (ha:at_≤8*len) (n:Int) (first:Nat) (hfi:((at_:Int)+7)/8=(first:Int)) (hn:n<0∨(len:Int)-first<n) :
  Calls Tryz.prog 150 #[.pointer (some ⟨p,0,none⟩),.int .i64 n] w fun e w'=>e = .returned (.tuple #[.slice none 0 0,.bool false])∧w=w':=by
 have hf2:first≤len:=by omega
 have HFE:=Lib.hid hfi
 clear hfi
 by_cases h0:n<0
 ·clear hn
  go_enter Tryz.func150,Tryz.ntmps150
  go_wp2_with (go_at_call 164;refine (bytesFor_nat at_ first _ (by omega) (by omega) HFE.out).mono ?_;rintro e w' ⟨rfl,rfl⟩)
  go_ret2
  exact ⟨rfl,rfl⟩
 ·have h0':0≤n:=by omega
  have h1:(len:Int)-first<n:=by omega
  clear hn h0
  go_enter Tryz.func150,Tryz.ntmps150
  go_wp2_with (go_at_call 164;refine (bytesFor_nat at_ first _ (by omega) (by omega) HFE.out).mono ?_;rintro e w' ⟨rfl,rfl⟩)
  go_ret2
  exact ⟨rfl,rfl⟩
theorem Ob.bytes_no {w:World} {base p:Nat} {g:Option Nat} {bs:List Nat} {at_:Nat} (h:Ob w base 186 p g bs at_) (hl:bs.length≤1000000000) (ha:at_≤8*bs.length) (n:Int) (hn:n<0∨(bs.length:Int)-((at_:Int)+7)/8<n) :
  Calls Tryz.prog 150 #[.pointer (some ⟨p,0,none⟩),.int .i64 n] w fun e w'=>e = .returned (.tuple #[.slice none 0 0,.bool false])∧w=w':=by
 rcases h.see with ⟨s,rfl,rfl⟩ | ⟨g0,cap,s,rfl,hc,hm⟩
 ·have h0:at_=0:=by simpa using ha
  subst h0
  exact YthbbpooobaahiaaGreatDoor.bytes_no s.c0 s.c1 (by omega) (by omega) n 0 (by omega) (by simp only [List.length_nil] at hn;omega)
 ·exact YthbbpooobaahiaaGreatDoor.bytes_no s.c0 s.c1 hl ha n ((at_+7)/8) (by omega) (by omega)
structure Apd (w:World) (base:Nat) (v:Value) (bs:List Nat) (v':Value) (w':World):Prop where
 own:w'.ownsRow base 5 1 v' bs.length (u8s bs)
 touch:Touch (fun k=>v.ownBlock=some k) w w'
 row:∀ k,v'.ownBlock=some k→v.ownBlock=some k∨w.heap.size≤k
theorem u8s_app (a b:List Nat):u8s a++u8s b=u8s (a++b):=by simp [u8s]
theorem run_append_x (w:World) {base:Nat} {v sv:Value} {xs ys:List Nat} (ty:TypeId) (hown:w.ownsRow base 5 1 v xs.length (u8s xs)) (hs:BySl w sv ys) (hbase:base≤w.heap.size) (hl:xs.length+ys.length≤2000000000) :
  ∃ v' w',(Builtin.append_ #[22,22] ty #[v,sv]).run Tryz.prog w = .ok v' w'∧Apd w base v (xs++ys) v' w':=by
 obtain ⟨i0,hi,hz0,hz1,hz2⟩:=info_parts Tryz.info5
 have hlen:(xs++ys).length=xs.length+ys.length:=List.length_append
 rcases hs with ⟨rfl,rfl⟩ | ⟨ad,c,rfl,hc,hcell⟩
 ·refine ⟨v,w,run_append_owned_none w base 22 ty 5 i0 1 Tryz.underlying22 hi v xs.length (u8s xs) hown,?_,Touch.refl _ _,fun k hk => .inl hk⟩
  simpa using hown
 ·rcases hown.2 with ⟨rfl,hn0⟩ | ⟨g,cap,cur,rfl,hbg,hh,hnc,hcm,hcs,htake⟩
  ·have hx:xs=[]:=List.eq_nil_of_length_eq_zero hn0
   subst hx
   obtain ⟨v',w',hr,ho,hg,_⟩:=run_append_own (P:=Tryz.prog) w w.heap.size 22 ty 5 i0 (.int .u8 0) 1 1 Tryz.underlying22 hi hz0 hz1 hz2 rfl (by decide) (.slice none 0 0) 0 [] (World.ownsRow_nil _ _ _ _) ad ys.length c (u8s ys) (by simp [u8s_len]) hcell (u8s_one ys) (by unfold maxLen;simp only [List.length_nil] at hl;omega) (by simp only [List.length_nil] at hl;omega) (Nat.le_refl _)
   have ho':w'.ownsRow w.heap.size 5 1 v' ([]++ys).length (u8s ([]++ys)):=by simpa using ho
   exact ⟨v',w',hr,own_base ho' hbase,(Touch.refl _ w).grown hg fun k hk=>by simp [Value.ownBlock] at hk,fun k hk => .inr (ho'.lt k hk).1⟩
  ·by_cases hroom:xs.length+ys.length≤cap
   ·obtain ⟨w',hr,ho,hg⟩:=run_append_fits (P:=Tryz.prog) w base 22 ty 5 i0 1 Tryz.underlying22 hi hz1 g xs.length cap (u8s xs) hown ad ys.length c (u8s ys) (by simp [u8s_len]) hcell (u8s_one ys) hroom
    rw [u8s_app,←hlen] at ho
    refine ⟨_,w',hr,hlen ▸ ho,(Touch.refl _ w).grown hg fun k hk => .inl (by cases hk;simp [Value.ownBlock]),fun k hk => .inl (by simpa [Value.ownBlock] using hk)⟩
   ·obtain ⟨v',w',hr,ho,hg⟩:=run_append_arg_grows (P:=Tryz.prog) w 22 ty 5 i0 (.int .u8 0) 1 1 Tryz.underlying22 hi hz0 hz1 hz2 rfl (by decide) ⟨g,0,none⟩ xs.length cap (u8s xs) (by simp [u8s_len]) (hown.cells (by simp [Value.ownBlock])) ad ys.length c (u8s ys) (by simp [u8s_len]) hcell (by omega) (by unfold maxLen;omega) (by omega)
    rw [u8s_app,←hlen] at ho
    exact ⟨v',w',hr,own_base ho hbase,(Touch.refl _ w).grown hg (fun k hk=>by cases hk),fun k hk => .inr (ho.lt k hk).1⟩
theorem wpList_append_x {w:World} {ops:Array Oper} {rest:List Oper} {o:Oper} {a:Act} {Q:Exit→Act→World→Prop} (hgd:o.guard=none) (s x:Operand)
  (ho:o.op = .call { callee := .builtin .append,args := #[s,x],argTypes := #[22,22] })
  (base:Nat) (v sv:Value) (xs ys:List Nat) (hs:a.eval s=v) (hx:a.eval x=sv) (hown:w.ownsRow base 5 1 v xs.length (u8s xs)) (hsrc:BySl w sv ys) (hbase:base≤w.heap.size) (hl:xs.length+ys.length≤2000000000)
  (h:∀ ao c w',Apd w base v (xs++ys) (.slice ao (xs++ys).length c) w'→wpList Tryz.prog ops Q rest (a.put o.dst (.slice ao (xs++ys).length c)) w'):wpList Tryz.prog ops Q (o::rest) a w:=by
 refine wpList_plain hgd fun K hK=>?_
 obtain ⟨v',w',hrun,hA⟩:=run_append_x w o.type hown hsrc hbase hl
 obtain ⟨ao,c,rfl⟩:=own_shape hA.own
 unfold Oper.wp
 simp [execOp,ho,resolve,invoke,builtin,hs,hx,hrun,Result.andThen]
 exact hK _ _ (by simpa using h ao c w' hA)
theorem step_append_x {ops:Array Oper} {o:Oper} {a:Act} {w:World} {K:Act→World→Prop} {Q:Exit→Act→World→Prop} {E:Prop}
  (hg:o.guard=none) (s x:Operand) (hop:o.op=Op.call { callee:=Callee.builtin Builtin.append,args := #[s,x],argTypes := #[22,22] })
  (base:Nat) (v sv:Value) (xs ys:List Nat) (hs:a.eval s=v) (hx:a.eval x=sv) (hown:w.ownsRow base 5 1 v xs.length (u8s xs)) (hsrc:BySl w sv ys) (hbase:base≤w.heap.size) (hl:xs.length+ys.length≤2000000000)
  (hK:∀ ao c w',Apd w base v (xs++ys) (.slice ao (xs++ys).length c) w'→K (a.put o.dst (.slice ao (xs++ys).length c)) w') :
  if Region.wanted o (yielded ops a.tmps)=true then Oper.wp Tryz.prog o a w K Q else E:=by
 have hw:Region.wanted o (yielded ops a.tmps)=true:=by simp [Region.wanted,hg]
 rw [if_pos hw]
 obtain ⟨v',w',hrun,hA⟩:=run_append_x w o.type hown hsrc hbase hl
 obtain ⟨ao,c,rfl⟩:=own_shape hA.own
 unfold Oper.wp
 simp [execOp,hop,resolve,invoke,builtin,hs,hx,hrun,Result.andThen]
 have h:=hK ao c w' hA
 simp only [List.length_append] at h
 exact h
theorem by_one (W:World) (y:Nat) {u:Int} (hu:u=(y:Int)):BySl (W.alloc (.cells #[.int .u8 u] 5)) (.slice (some ⟨W.heap.size,0,none⟩) 1 1) [y]:=by
 subst hu
 refine .inr ⟨⟨W.heap.size,0,none⟩,1,rfl,by simp,fun j u hj=>?_⟩
 match j,hj with
 | 0,hj=>simp [u8s] at hj;subst hj;simp [Addr.add]
end
def rv:Nat→Nat→Nat
 | 0,_=>0
 | n+1,v=>rv n v*2+v/2^n%2
theorem rv_lt (n v:Nat):rv n v<2^n:=by
 induction n with
 | zero=>simp [rv]
 | succ n ih=>rw [rv,Nat.pow_succ];omega
theorem rv_bit (n v i:Nat):(rv n v).testBit i=(decide (i<n) && v.testBit (n-1-i)):=by
 induction n generalizing i with
 | zero=>simp [rv]
 | succ n ih=>
  rw [rv]
  cases i with
  | zero=>
   rw [Nat.testBit_zero]
   have e:(rv n v*2+v/2^n%2)%2=v/2^n%2:=by omega
   rw [e,Nat.testBit_eq_decide_div_mod_eq]
   simp
  | succ i=>
   rw [Nat.testBit_succ,show (rv n v*2+v/2^n%2)/2=rv n v from by omega,ih]
   by_cases h:i<n
   ·simp [h,show n-(i+1)=n-1-i from by omega]
   ·simp [h]
theorem rv_div (n m v:Nat):rv (n+m) v/2^m=rv n v:=by
 induction m with
 | zero=>simp
 | succ m ih=>
  rw [←Nat.add_assoc,rv,Nat.pow_succ,Nat.mul_comm (2^m) 2,←Nat.div_div_eq_div_mul,show (rv (n+m) v*2+v/2^(n+m)%2)/2=rv (n+m) v from by omega,ih]
def st (m s x:Nat):Nat:=(x/2^s &&& m) ||| ((x &&& m)*2^s%2^32)
theorem st_lt (m s x:Nat) (hm:m<2^32):st m s x<2^32:=
 Nat.or_lt_two_pow (Nat.lt_of_le_of_lt Nat.and_le_right hm) (Nat.mod_lt _ (by omega))
theorem st_bit (m s x i:Nat) (hi:i<32):(st m s x).testBit i=((x.testBit (i+s) && m.testBit i) || (decide (s≤i) && (x.testBit (i-s) && m.testBit (i-s)))):=by
 unfold st
 rw [Nat.testBit_or,Nat.testBit_and,Nat.testBit_div_two_pow,Nat.testBit_mod_two_pow,Nat.testBit_mul_two_pow,Nat.testBit_and]
 simp [hi]
def r32 (v:Nat):Nat:=st 65535 16 (st 16711935 8 (st 252645135 4 (st 858993459 2 (st 1431655765 1 v))))
theorem st_gen {m s:Nat} (x i:Nat) (hi:i<32) (h1:m.testBit i=true→i+s=i ^^^ s∧(s≤i→m.testBit (i-s)=false)) (h2:m.testBit i=false→s≤i∧i-s=i ^^^ s∧m.testBit (i-s)=true):(st m s x).testBit i=x.testBit (i ^^^ s):=by
 rw [st_bit _ _ _ _ hi]
 cases hm:m.testBit i with
 | true=>
  obtain ⟨e,f⟩:=h1 hm
  by_cases hs:s≤i
  ·simp [f hs,←e]
  ·simp [hs,←e]
 | false=>
  obtain ⟨hs,e,f⟩:=h2 hm
  simp [f,hs,←e]
theorem m_1:∀ i,i<32→(Nat.testBit 1431655765 i=true→i+1=i ^^^ 1∧(1≤i→Nat.testBit 1431655765 (i-1)=false))∧(Nat.testBit 1431655765 i=false→1≤i∧i-1=i ^^^ 1∧Nat.testBit 1431655765 (i-1)=true):=by decide
theorem st_1 (x:Nat):∀ i,i<32→(st 1431655765 1 x).testBit i=x.testBit (i ^^^ 1):=fun i hi=>st_gen x i hi (m_1 i hi).1 (m_1 i hi).2
theorem m_2:∀ i,i<32→(Nat.testBit 858993459 i=true→i+2=i ^^^ 2∧(2≤i→Nat.testBit 858993459 (i-2)=false))∧(Nat.testBit 858993459 i=false→2≤i∧i-2=i ^^^ 2∧Nat.testBit 858993459 (i-2)=true):=by decide
theorem st_2 (x:Nat):∀ i,i<32→(st 858993459 2 x).testBit i=x.testBit (i ^^^ 2):=fun i hi=>st_gen x i hi (m_2 i hi).1 (m_2 i hi).2
theorem m_4:∀ i,i<32→(Nat.testBit 252645135 i=true→i+4=i ^^^ 4∧(4≤i→Nat.testBit 252645135 (i-4)=false))∧(Nat.testBit 252645135 i=false→4≤i∧i-4=i ^^^ 4∧Nat.testBit 252645135 (i-4)=true):=by decide
theorem st_4 (x:Nat):∀ i,i<32→(st 252645135 4 x).testBit i=x.testBit (i ^^^ 4):=fun i hi=>st_gen x i hi (m_4 i hi).1 (m_4 i hi).2
theorem m_8:∀ i,i<32→(Nat.testBit 16711935 i=true→i+8=i ^^^ 8∧(8≤i→Nat.testBit 16711935 (i-8)=false))∧(Nat.testBit 16711935 i=false→8≤i∧i-8=i ^^^ 8∧Nat.testBit 16711935 (i-8)=true):=by decide
theorem st_8 (x:Nat):∀ i,i<32→(st 16711935 8 x).testBit i=x.testBit (i ^^^ 8):=fun i hi=>st_gen x i hi (m_8 i hi).1 (m_8 i hi).2
theorem m_16:∀ i,i<32→(Nat.testBit 65535 i=true→i+16=i ^^^ 16∧(16≤i→Nat.testBit 65535 (i-16)=false))∧(Nat.testBit 65535 i=false→16≤i∧i-16=i ^^^ 16∧Nat.testBit 65535 (i-16)=true):=by decide
theorem st_16 (x:Nat):∀ i,i<32→(st 65535 16 x).testBit i=x.testBit (i ^^^ 16):=fun i hi=>st_gen x i hi (m_16 i hi).1 (m_16 i hi).2
theorem xor_lt {i:Nat} (h:i<32) (k:Nat) (hk:k<32):i ^^^ k<32:=Nat.xor_lt_two_pow (n:=5) h hk
theorem xor_all:∀ i,i<32→((((i ^^^ 16) ^^^ 8) ^^^ 4) ^^^ 2) ^^^ 1=31-i:=by decide
theorem r32_rv (v:Nat):r32 v=rv 32 v:=by
 apply Nat.eq_of_testBit_eq
 intro i
 by_cases h:i<32
 ·have h1:=xor_lt h 16 (by omega)
  have h2:=xor_lt h1 8 (by omega)
  have h3:=xor_lt h2 4 (by omega)
  have h4:=xor_lt h3 2 (by omega)
  unfold r32
  rw [st_16 _ i h,st_8 _ _ h1,st_4 _ _ h2,st_2 _ _ h3,st_1 _ _ h4,xor_all i h,rv_bit]
  simp [h]
 ·have a:r32 v<2^i:=Nat.lt_of_lt_of_le (st_lt _ _ _ (by omega)) (Nat.pow_le_pow_right (by omega) (by omega))
  have b:rv 32 v<2^i:=Nat.lt_of_lt_of_le (rv_lt 32 v) (Nat.pow_le_pow_right (by omega) (by omega))
  rw [Nat.testBit_lt_two_pow a,Nat.testBit_lt_two_pow b]
section
open Go.RowKit
theorem st_int (m s S x X:Nat) (hS:S=2^s) (hm:m<4294967296) (hx:x<4294967296) (hX:st m s x=X) :
  bits BinOp.or IntKind.u32 (bits BinOp.and IntKind.u32 ((x:Int)/(S:Int)) (m:Int)) (bits BinOp.and IntKind.u32 (x:Int) (m:Int)*(S:Int)%4294967296)=(X:Int):=by
 subst hX;subst hS
 have h1:x/2^s≤x:=Nat.div_le_self _ _
 have e1:((x:Int)/((2^s:Nat):Int))=((x/2^s:Nat):Int):=by simp
 rw [e1,u32_and_nat _ _ (by omega) hm,u32_and_nat _ _ hx hm]
 have e2:(((x &&& m:Nat):Int)*((2^s:Nat):Int)%4294967296)=(((x &&& m)*2^s%4294967296:Nat):Int):=by rw [←Int.natCast_mul];omega
 rw [e2,u32_or_nat _ _ (Nat.lt_of_le_of_lt Nat.and_le_right hm) (by omega)]
 rfl
theorem st16_int (x X:Nat) (hx:x<4294967296) (hX:st 65535 16 x=X) :
  bits BinOp.or IntKind.u32 ((x:Int)/65536) ((x:Int)*65536%4294967296)=(X:Int):=by
 subst hX
 have e1:((x:Int)/65536)=((x/65536:Nat):Int):=by omega
 have e2:((x:Int)*65536%4294967296)=((x*65536%4294967296:Nat):Int):=by omega
 rw [e1,e2,u32_or_nat _ _ (by omega) (by omega)]
 unfold st
 rw [show (65535:Nat)=2^16-1 from rfl,Nat.and_two_pow_sub_one_eq_mod,Nat.and_two_pow_sub_one_eq_mod]
 have a:x/2^16%2^16=x/65536:=by
  have:(2:Nat)^16=65536:=rfl
  omega
 have b:x%2^16*2^16%2^32=x*65536%4294967296:=by
  have:(2:Nat)^16=65536:=rfl
  have:(2:Nat)^32=4294967296:=rfl
  omega
 rw [a,b]
theorem rb32 (v a b:Nat) (w:World) (hv:v<4294967296) (ha:st 16711935 8 v=a) (hb:st 65535 16 a=b) :
  Calls Tryz.prog 196 #[.int .u32 v] w fun e w'=>e = .returned (.int .u32 b)∧w=w':=by
 have hal:a<4294967296:=by rw [←ha];exact st_lt _ _ _ (by omega)
 have h1:=st_int 16711935 8 256 v a rfl (by omega) hv ha
 have h2:=st16_int a b hal hb
 clear ha hb
 simp only [Int.cast_ofNat_Int] at h1
 go_enter Tryz.func196,Tryz.ntmps196
 go_wp2
 go_ret
 exact ⟨rfl,rfl⟩
theorem r32_walk (v a b c d e:Nat) (w:World) (hv:v<4294967296) (ha:st 1431655765 1 v=a) (hb:st 858993459 2 a=b) (hc:st 252645135 4 b=c) (hd:st 16711935 8 c=d) (he:st 65535 16 d=e) :
  Calls Tryz.prog 187 #[.int .u32 v] w fun en w'=>en = .returned (.int .u32 e)∧w=w':=by
 have hal:a<4294967296:=by rw [←ha];exact st_lt _ _ _ (by omega)
 have hbl:b<4294967296:=by rw [←hb];exact st_lt _ _ _ (by omega)
 have hcl:c<4294967296:=by rw [←hc];exact st_lt _ _ _ (by omega)
 have h1:=st_int 1431655765 1 2 v a rfl (by omega) hv ha
 have h2:=st_int 858993459 2 4 a b rfl (by omega) hal hb
 have h3:=st_int 252645135 4 16 b c rfl (by omega) hbl hc
 have HD:=Lib.hid hd
 have HE:=Lib.hid he
 clear ha hb hc hd he
 simp only [Int.cast_ofNat_Int] at h1 h2 h3
 go_enter Tryz.func187,Tryz.ntmps187
 go_wp2_with (go_at_call 196;refine (rb32 c d e _ hcl HD.out HE.out).mono ?_;rintro en w' ⟨rfl,rfl⟩)
 go_ret
 exact ⟨rfl,rfl⟩
theorem reverse32_any (v:Nat) (w:World) (hv:v<4294967296) :
  Calls Tryz.prog 187 #[.int .u32 v] w fun en w'=>en = .returned (.int .u32 (rv 32 v:Nat))∧w=w':=by
 rw [←r32_rv]
 exact r32_walk v _ _ _ _ _ w hv rfl rfl rfl rfl rfl
theorem reverse_yes (v n:Nat) (w:World) (hv:v<4294967296) (hn:n≤32) :
  Calls Tryz.prog 175 #[.int .u32 v,.int .i64 n] w fun e w'=>e = .returned (.int .u32 (rv n v:Nat))∧w=w':=by
 have hd:=rv_div n (32-n) v
 rw [show n+(32-n)=32 from by omega] at hd
 obtain ⟨R,hR⟩:∃ R,rv 32 v=R:=⟨_,rfl⟩
 obtain ⟨S,hS⟩:∃ S,rv n v=S:=⟨_,rfl⟩
 rw [hR,hS] at hd
 have hrev:=reverse32_any v w hv
 rw [hR] at hrev
 rw [hS]
 have HR:=Lib.hid hrev
 have HD:=Lib.hid hd
 clear hR hS hd hrev
 go_enter Tryz.func175,Tryz.ntmps175
 go_wp2_with (first
  | (go_at_call 161;refine (isWidth_yes n _ (by omega) (by omega)).mono ?_;rintro e w' ⟨rfl,rfl⟩)
  | (go_at_call 187;refine HR.out.mono ?_;rintro e w' ⟨rfl,rfl⟩))
 go_ret
 exact ⟨ret_int (by rw [←HD.out];simp),rfl⟩
end
def cn (ls:List Nat) (n:Nat):Nat:=if n=0 then 0 else ls.count n
def fc (ls:List Nat):Nat→Nat
 | 0=>0
 | n+1=>(fc ls n+cn ls n)*2
def fp (ls:List Nat):Nat→Nat
 | 0=>0
 | n+1=>fp ls n+cn ls n
def sp (ls:List Nat):Nat→Nat
 | 0=>0
 | n+1=>sp ls n+cn ls n*2^(15-n)
def ln (ls:List Nat) (s:Nat):Nat:=ls.getD s 0
def rk (ls:List Nat) (s:Nat):Nat:=(ls.take s).count (ln ls s)
def cd (ls:List Nat) (s:Nat):Nat:=fc ls (ln ls s)+rk ls s
def room (ls:List Nat):Nat:=sp ls 16
structure Ok (ls:List Nat):Prop where
 len:ls.length≤320
 le:∀ x∈ls,x≤15
 few:room ls≤32768
theorem pow_split {n:Nat} (h:n≤15):2^n*2^(15-n)=32768:=by rw [←Nat.pow_add,show n+(15-n)=15 by omega]
theorem fc_sp (ls:List Nat) (n:Nat) (h:n≤15):fc ls n*2^(15-n)=sp ls n:=by
 induction n with
 | zero=>simp [fc,sp]
 | succ n ih=>
  have:=ih (by omega)
  have e:2*2^(15-(n+1))=2^(15-n):=by rw [←Nat.pow_succ',show (15-(n+1)).succ=15-n by omega]
  rw [fc,sp,←this,Nat.mul_assoc,e,Nat.add_mul]
theorem sp_mono (ls:List Nat) {m n:Nat} (h:m≤n):sp ls m≤sp ls n:=by
 induction n with
 | zero=>
      obtain rfl:m=0:=by omega
      exact Nat.le_refl _
 | succ n ih=>
  by_cases e:m=n+1
  ·subst e;exact Nat.le_refl _
  ·have:=ih (by omega)
   rw [sp];omega
theorem fp_mono (ls:List Nat) {m n:Nat} (h:m≤n):fp ls m≤fp ls n:=by
 induction n with
 | zero=>
      obtain rfl:m=0:=by omega
      exact Nat.le_refl _
 | succ n ih=>
  by_cases e:m=n+1
  ·subst e;exact Nat.le_refl _
  ·have:=ih (by omega)
   rw [fp];omega
theorem ln_lt {ls:List Nat} {s:Nat} (h:ln ls s≠0):s<ls.length:=by
 unfold ln at h
 rcases Nat.lt_or_ge s ls.length with h1 | h1
 ·exact h1
 ·simp [List.getD,h1] at h
theorem ln_le {ls:List Nat} (H:Ok ls) (s:Nat):ln ls s≤15:=by
 unfold ln
 rcases Nat.lt_or_ge s ls.length with h1 | h1
 ·rw [List.getD_eq_getElem?_getD,List.getElem?_eq_getElem h1];exact H.le _ (List.getElem_mem h1)
 ·simp [List.getD,h1]
theorem take_succ_ln {ls:List Nat} {s:Nat} (h:s<ls.length):ls.take (s+1)=ls.take s++[ln ls s]:=by
 rw [List.take_succ_eq_append_getElem h]
 simp [ln,List.getD,h]
theorem count_take_le (ls:List Nat) (s n:Nat):(ls.take s).count n≤ls.count n:=by
 exact (List.take_sublist s ls).count_le n
theorem rk_lt {ls:List Nat} {s:Nat} (h:ln ls s≠0):rk ls s<cn ls (ln ls s):=by
 have h1:=count_take_le ls (s+1) (ln ls s)
 rw [take_succ_ln (ln_lt h),List.count_append] at h1
 have h2:[ln ls s].count (ln ls s)=1:=by simp
 unfold rk cn
 rw [if_neg h]
 omega
def lo (ls:List Nat) (s:Nat):Nat:=cd ls s*2^(15-ln ls s)
def hi (ls:List Nat) (s:Nat):Nat:=(cd ls s+1)*2^(15-ln ls s)
theorem lo_eq {ls:List Nat} (H:Ok ls) (s:Nat):lo ls s=sp ls (ln ls s)+rk ls s*2^(15-ln ls s):=by
 unfold lo cd
 rw [Nat.add_mul,fc_sp ls _ (ln_le H s)]
theorem hi_eq {ls:List Nat} (s:Nat):hi ls s=lo ls s+2^(15-ln ls s):=by
 unfold hi lo
 rw [Nat.add_mul,Nat.one_mul]
theorem lo_ge {ls:List Nat} (H:Ok ls) (s:Nat):sp ls (ln ls s)≤lo ls s:=by rw [lo_eq H];omega
theorem hi_le {ls:List Nat} (H:Ok ls) {s:Nat} (h:ln ls s≠0):hi ls s≤sp ls (ln ls s+1):=by
 rw [hi_eq,lo_eq H,sp]
 have h1:(rk ls s+1)*2^(15-ln ls s)≤cn ls (ln ls s)*2^(15-ln ls s):=Nat.mul_le_mul_right _ (rk_lt h)
 rw [Nat.add_mul] at h1
 omega
theorem hi_room {ls:List Nat} (H:Ok ls) {s:Nat} (h:ln ls s≠0):hi ls s≤room ls:=
 Nat.le_trans (hi_le H h) (sp_mono ls (by have:=ln_le H s;omega))
theorem cd_lt {ls:List Nat} (H:Ok ls) {s:Nat} (h:ln ls s≠0):cd ls s<2^ln ls s:=by
 have h1:=hi_room H h
 have h2:=H.few
 have h3:=pow_split (ln_le H s)
 unfold hi at h1
 rcases Nat.lt_or_ge (cd ls s) (2^ln ls s) with h4 | h4
 ·exact h4
 ·exfalso
  have h5:(2^ln ls s+1)*2^(15-ln ls s)≤(cd ls s+1)*2^(15-ln ls s):=Nat.mul_le_mul_right _ (by omega)
  rw [Nat.add_mul,h3] at h5
  have:=Nat.two_pow_pos (15-ln ls s)
  omega
theorem rk_mono {ls:List Nat} {s t:Nat} (hs:ln ls s≠0) (he:ln ls s=ln ls t) (h:s<t):rk ls s<rk ls t:=by
 have h1:(ls.take (s+1)).count (ln ls s)≤(ls.take t).count (ln ls s):=by
  have:ls.take (s+1)=(ls.take t).take (s+1):=by rw [List.take_take,Nat.min_eq_left (by omega)]
  rw [this]
  exact count_take_le _ _ _
 rw [take_succ_ln (ln_lt hs),List.count_append] at h1
 have h2:[ln ls s].count (ln ls s)=1:=by simp
 unfold rk
 rw [←he]
 omega
theorem hi_lo {ls:List Nat} (H:Ok ls) {s t:Nat} (hs:ln ls s≠0) (_ht:ln ls t≠0) (h:ln ls s<ln ls t∨ln ls s=ln ls t∧s<t):hi ls s≤lo ls t:=by
 rcases h with h | ⟨he,h⟩
 ·exact Nat.le_trans (hi_le H hs) (Nat.le_trans (sp_mono ls h) (lo_ge H t))
 ·have h1:=rk_mono hs he h
  rw [hi_eq,lo_eq H,lo_eq H,←he]
  have h2:(rk ls s+1)*2^(15-ln ls s)≤rk ls t*2^(15-ln ls s):=Nat.mul_le_mul_right _ h1
  rw [Nat.add_mul] at h2
  omega
theorem apart_codes {ls:List Nat} (H:Ok ls) {s t:Nat} (hs:ln ls s≠0) (ht:ln ls t≠0) (hne:s≠t):hi ls s≤lo ls t∨hi ls t≤lo ls s:=by
 by_cases h:ln ls s<ln ls t
 ·exact .inl (hi_lo H hs ht (.inl h))
 ·by_cases h2:ln ls t<ln ls s
  ·exact .inr (hi_lo H ht hs (.inl h2))
  ·have he:ln ls s=ln ls t:=by omega
   rcases Nat.lt_or_ge s t with h3 | h3
   ·exact .inl (hi_lo H hs ht (.inr ⟨he,h3⟩))
   ·exact .inr (hi_lo H ht hs (.inr ⟨he.symm,by omega⟩))
def Beg (ls:List Nat) (A s:Nat):Prop:=ln ls s≠0∧A/2^(15-ln ls s)=cd ls s
theorem beg_iff {ls:List Nat} {A s:Nat}:Beg ls A s↔ln ls s≠0∧lo ls s≤A∧A<hi ls s:=by
 unfold Beg lo hi
 rw [Nat.div_eq_iff (Nat.two_pow_pos _)]
 have:=Nat.two_pow_pos (15-ln ls s)
 rw [Nat.add_mul,Nat.one_mul]
 constructor
 ·rintro ⟨h0,h1,h2⟩;exact ⟨h0,by omega,by omega⟩
 ·rintro ⟨h0,h1,h2⟩;exact ⟨h0,by omega,by omega⟩
theorem beg_one {ls:List Nat} (H:Ok ls) {A s t:Nat} (h1:Beg ls A s) (h2:Beg ls A t):s=t:=by
 rw [beg_iff] at h1 h2
 by_cases e:s=t
 ·exact e
 ·rcases apart_codes H h1.1 h2.1 e with h | h <;> omega
theorem rank_sym (ls:List Nat) (n:Nat):∀ k r,n≠0→r<(ls.take k).count n→∃ s,s<k∧ln ls s=n∧rk ls s=r:=by
 intro k
 induction k with
 | zero=>intro r _ h;simp at h
 | succ k ih=>
  intro r hn h
  by_cases hk:k<ls.length
  ·rw [take_succ_ln hk,List.count_append] at h
   by_cases h2:r<(ls.take k).count n
   ·obtain ⟨s,h3,h4⟩:=ih r hn h2
    exact ⟨s,by omega,h4⟩
   ·have h5:[ln ls k].count n≤1:=by rw [List.count_singleton];split <;> omega
    by_cases h6:ln ls k=n
    ·exact ⟨k,by omega,h6,by unfold rk;rw [h6];omega⟩
    ·have:[ln ls k].count n=0:=by rw [List.count_singleton];simp [h6]
     omega
  ·rw [List.take_of_length_le (by omega)] at h
   rw [←List.take_of_length_le (show ls.length≤k by omega)] at h
   obtain ⟨s,h3,h4⟩:=ih r hn h
   exact ⟨s,by omega,h4⟩
theorem rank_all {ls:List Nat} {n r:Nat} (hn:n≠0) (h:r<cn ls n):∃ s,s<ls.length∧ln ls s=n∧rk ls s=r:=by
 unfold cn at h
 rw [if_neg hn] at h
 exact rank_sym ls n ls.length r hn (by rwa [List.take_length])
theorem over_lt {ls:List Nat} {A n:Nat} (hn:n≤15):A/2^(15-n)<fc ls n+cn ls n↔A<sp ls (n+1):=by
 rw [Nat.div_lt_iff_lt_mul (Nat.two_pow_pos _),Nat.add_mul,fc_sp ls n hn,sp]
theorem over_ge {ls:List Nat} {A n:Nat} (hn:n≤15) (h:sp ls n≤A):fc ls n≤A/2^(15-n):=by
 rw [Nat.le_div_iff_mul_le (Nat.two_pow_pos _),fc_sp ls n hn]
 exact h
theorem over_sym {ls:List Nat} {A n s:Nat} (hn:n≠0) (h:fc ls n≤A/2^(15-n)) (hs:ln ls s=n) (hr:rk ls s=A/2^(15-n)-fc ls n):Beg ls A s:=by
 refine ⟨by omega,?_⟩
 unfold cd
 rw [hs]
 omega
theorem none_of {ls:List Nat} (H:Ok ls) {A:Nat} (h:room ls≤A) (s:Nat):¬Beg ls A s:=by
 rw [beg_iff]
 rintro ⟨h0,h1,h2⟩
 have:=hi_room H h0
 omega
def many (ls:List Nat):Nat:=fp ls 16
theorem fp_lt {ls:List Nat} (H:Ok ls) {s:Nat} (h:ln ls s≠0):fp ls (ln ls s)+rk ls s<many ls:=by
 have h1:=rk_lt h
 have h2:fp ls (ln ls s+1)≤fp ls 16:=fp_mono ls (by have:=ln_le H s;omega)
 rw [fp] at h2
 unfold many
 omega
theorem fp_inj {ls:List Nat} {s t:Nat} (hs:ln ls s≠0) (ht:ln ls t≠0) (h:fp ls (ln ls s)+rk ls s=fp ls (ln ls t)+rk ls t):s=t:=by
 have key:∀ a b,ln ls a≠0→ln ls b≠0→ln ls a<ln ls b→fp ls (ln ls a)+rk ls a<fp ls (ln ls b)+rk ls b:=by
  intro a b ha hb hab
  have h1:=rk_lt ha
  have h2:fp ls (ln ls a+1)≤fp ls (ln ls b):=fp_mono ls hab
  rw [fp] at h2
  omega
 by_cases h1:ln ls s<ln ls t
 ·have:=key s t hs ht h1;omega
 ·by_cases h2:ln ls t<ln ls s
  ·have:=key t s ht hs h2;omega
  ·have he:ln ls s=ln ls t:=by omega
   rcases Nat.lt_trichotomy s t with h3 | h3 | h3
   ·have:=rk_mono hs he h3;rw [he] at h;omega
   ·exact h3
   ·have:=rk_mono ht he.symm h3;rw [he] at h;omega
end Go.Proofs.YthbbpooobaahiaaGreatDoor
