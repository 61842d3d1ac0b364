/- Part 5. -/
import Derived.Deep.LoopGhost
import Derived.Laws.Bits64b
import Derived.Laws.CopyOwn
import Derived.Lib.AppendZerosOnto
import Derived.Test.YtacpfpghokcdlaaGreatDoorXB4
open Go.Proofs.Tryz
namespace Go.Proofs.YtacpfpghokcdlaaGreatDoor
set_option maxRecDepth 100000
section
open Go.RowKit
def Safe (w:World) (S:Nat→Prop):Prop:=∀ k t cs,Blk w k t cs→S k→t=49∨t=67∨t=5
theorem Blk.safe {S:Nat→Prop}{w w':World}{g:Nat}{t:TypeId}{cs:Array Value}(h:Blk w g t cs) (ht:Touch S w w') (hs:Safe w S) (h1:t≠49∧t≠67∧t≠5):Blk w' g t cs:=
 h.touch ht fun k=>by rcases hs g t cs h k with e | e | e <;> simp [e] at h1
theorem zg.safe {S:Nat→Prop}{w w':World}{p:Nat}{ls:List Nat}(h:zg w p ls) (ht:Touch S w w') (hs:Safe w S):zg w' p ls:=by
 obtain ⟨ho,gw,go,F,h1,h2,h3,h4⟩:=h;exact ⟨ho,gw,go,F,h1.safe ht hs (by decide),h2.safe ht hs (by decide),h3.safe ht hs (by decide),h4⟩
def xf (w:World) (K p:Nat) (ls:List Nat):Prop:=
 Ok ls∧∃ gw go F,Blk w p 197 (cc (.slice (some ⟨gw,0,none⟩) ls.length ls.length) (.slice (some ⟨go,0,none⟩) (many ls) (many ls)) (fc ls) (cn ls))∧
  Blk w gw 218 (va (ls.length*2) (y7 ls))∧Blk w go 3 (va (many ls) F)∧jZ ls ls.length F∧go<K
theorem zg.in_ {w:World}{p:Nat}{ls:List Nat}(h:zg w p ls):xf w w.heap.size p ls:=by
 obtain ⟨ho,gw,go,F,h1,h2,h3,h4⟩:=h;exact ⟨ho,gw,go,F,h1,h2,h3,h4,h3.lt⟩
theorem xf.at_ {w:World}{K p:Nat}{ls:List Nat}(h:xf w K p ls):zg w p ls:=by
 obtain ⟨ho,gw,go,F,h1,h2,h3,h4,_⟩:=h;exact ⟨ho,gw,go,F,h1,h2,h3,h4⟩
theorem xf.safe {S:Nat→Prop}{w w':World}{K p:Nat}{ls:List Nat}(h:xf w K p ls) (ht:Touch S w w') (hs:Safe w S):xf w' K p ls:=by
 obtain ⟨ho,gw,go,F,h1,h2,h3,h4,h5⟩:=h;exact ⟨ho,gw,go,F,h1.safe ht hs (by decide),h2.safe ht hs (by decide),h3.safe ht hs (by decide),h4,h5⟩
theorem xf.aside {w w':World}{K p r:Nat}{t:TypeId}{cs:Array Value}{ls:List Nat}(h:xf w K p ls) (hr:Blk w r t cs) (ht:Touch (fun k=>k=r) w w') (hk:t≠197∧t≠218∧(t=3→K≤r)):xf w' K p ls:=by
 obtain ⟨ho,gw,go,F,h1,h2,h3,h4,h5⟩:=h;refine ⟨ho,gw,go,F,h1.touch ht ?_,h2.touch ht ?_,h3.touch ht ?_,h4,h5⟩
 ·rintro rfl
  rw [Blk,h1] at hr;simp at hr;exact hk.1 hr.2.symm
 ·rintro rfl
  rw [Blk,h2] at hr;simp at hr;exact hk.2.1 hr.2.symm
 ·rintro rfl
  rw [Blk,h3] at hr;simp at hr;have:=hk.2.2 hr.2.symm;omega
def Qd (w:World) (K:Nat) (v:Value):Prop:=
 v=.pointer none∨∃ q p1 p2,v=.pointer (some ⟨q,0,none⟩)∧Blk w q 111 #[.pointer (some ⟨p1,0,none⟩),.pointer (some ⟨p2,0,none⟩)]∧xf w K p1 zU∧xf w K p2 ql∧q<K
theorem Qd.safe {S:Nat→Prop}{w w':World}{K:Nat}{v:Value}(h:Qd w K v) (ht:Touch S w w') (hs:Safe w S):Qd w' K v:=by
 rcases h with h | ⟨q,p1,p2,hv,h1,h2,h3,h4⟩
 ·exact .inl h
 ·exact .inr ⟨q,p1,p2,hv,h1.safe ht hs (by decide),h2.safe ht hs,h3.safe ht hs,h4⟩
def rc (pb:Nat) (ov:Value) (lim:Nat) (s:Sta) (fx:Value):Array Value:=
 #[.pointer (some ⟨pb,0,none⟩),ov,.int .i64 (lim:Nat),.int .i64 (s.steps:Nat),.int .i64 (s.blocks:Nat),fx]
structure RS (B K p pb:Nat) (g:Option Nat) (bs:List Nat) (lim:Nat) (w:World) (ov:Value) (s:Sta):Prop where
 blk:∃ fx,Blk w p 49 (rc pb ov lim s fx)∧Qd w K fx
 ob:Ob w B 67 pb g bs s.at_
 own:w.ownsRow B 5 1 ov s.out.length (u8s s.out)
 hp:B≤p
 row:∀ k,ov.ownBlock=some k→g≠some k
 len:bs.length≤100000
 lim_:lim≤2000000
 in_:s.at_≤8*bs.length
 out:s.out.length≤lim
 steps:s.steps≤s.at_
 blocks:s.blocks≤s.at_
 bytes:Bs s.out
def FT (p pb:Nat) (ov:Value) (k:Nat):Prop:=k=p∨k=pb∨ov.ownBlock=some k
structure Mv (p pb:Nat) (w:World) (ov:Value) (w':World) (ov':Value):Prop where
 touch:Touch (FT p pb ov) w w'
 row:∀ k,ov'.ownBlock=some k→ov.ownBlock=some k∨w.heap.size≤k
theorem Mv.trans {p pb:Nat}{a b c:World}{o1 o2 o3:Value}(h:Mv p pb a o1 b o2) (k:Mv p pb b o2 c o3):Mv p pb a o1 c o3:=by
 refine ⟨h.touch.trans' k.touch ?_,fun i hi=>?_⟩
 ·rintro i (hi | hi | hi) hlt
  ·exact .inl hi
  ·exact .inr (.inl hi)
  ·rcases h.row i hi with hi | hi
   ·exact .inr (.inr hi)
   ·omega
 ·rcases k.row i hi with hi | hi
  ·exact h.row i hi
  ·exact .inr (Nat.le_trans h.touch.size hi)
theorem Mv.bad {p pb:Nat}{a b c:World}{o1 o2:Value}(h:Mv p pb a o1 b o2) (k:Touch (FT p pb o2) b c):Touch (FT p pb o1) a c:=
 (h.trans ⟨k,fun _ h => .inl h⟩:Mv p pb a o1 c o2).touch
section
variable {B K p pb:Nat}{g:Option Nat}{bs:List Nat}{lim:Nat}{w:World}{ov:Value}{s:Sta}
theorem zZ {e size n base:Nat}{v:Value}{xs:List Value}(h:w.ownsRow base e size v n xs){k:Nat}(hk:v.ownBlock=some k):∃ cs,w.heap[k]? = some (.cells cs e (0,0)):=by
 rcases h.2 with ⟨rfl,_⟩ | ⟨g',cap,cur,rfl,_,hh,_⟩
 ·simp [Value.ownBlock] at hk
 ·simp [Value.ownBlock] at hk
  subst hk;exact ⟨cur,hh⟩
theorem RS.safe (h:RS B K p pb g bs lim w ov s):Safe w (FT p pb ov):=by
 obtain ⟨fx,hb,_⟩:=h.blk;obtain ⟨sv,ho,_⟩:=h.ob.blk;rintro k t cs hk (rfl | rfl | hk')
 ·rw [Blk,hb] at hk
  simp at hk;exact .inl hk.2.symm
 ·rw [Blk,ho] at hk
  simp at hk;exact .inr (.inl hk.2.symm)
 ·obtain ⟨cs',hc⟩:=zZ h.own hk'
  rw [Blk,hc] at hk;simp at hk;exact .inr (.inr hk.2.symm)
theorem RS.ne (h:RS B K p pb g bs lim w ov s):p≠pb∧(∀ k,ov.ownBlock=some k→k≠p∧k≠pb)∧(∀ k,g=some k→k≠p∧k≠pb):=by
 obtain ⟨fx,hb,_⟩:=h.blk;obtain ⟨sv,ho,hg,hs⟩:=h.ob.blk;have hs':∀ k,g=some k→k≠p∧k≠pb:=by
  intro k hk;rw [←hg] at hk;obtain ⟨cs',hc⟩:=zZ hs hk;constructor
  ·rintro rfl
   rw [Blk,hc] at hb;simp at hb
  ·rintro rfl
   rw [hc] at ho;simp at ho
 refine ⟨?_,?_,hs'⟩
 ·rintro rfl
  rw [Blk,ho] at hb;simp at hb
 ·intro k hk
  obtain ⟨cs',hc⟩:=zZ h.own hk;constructor
  ·rintro rfl
   rw [Blk,hc] at hb;simp at hb
  ·rintro rfl
   rw [hc] at ho;simp at ho
theorem RS.base (h:RS B K p pb g bs lim w ov s):∀ k,FT p pb ov k→B≤k:=by
 rintro k (rfl | rfl | hk)
 ·exact h.hp
 ·exact h.ob.hp
 ·exact (h.own.lt k hk).1
theorem RS.size (h:RS B K p pb g bs lim w ov s):B≤w.heap.size:=by
 obtain ⟨fx,hb,_⟩:=h.blk;have:=hb.lt;have:=h.hp;omega
structure Rcs (w:World) (p pb:Nat) (ov:Value) (lim:Nat) (s:Sta):Prop where
 c0:w.cell? ⟨p,0,none⟩=some (.pointer (some ⟨pb,0,none⟩))
 c1:w.cell? ⟨p,1,none⟩=some ov
 c2:w.cell? ⟨p,2,none⟩=some (.int .i64 (lim:Nat))
 c3:w.cell? ⟨p,3,none⟩=some (.int .i64 (s.steps:Nat))
 c4:w.cell? ⟨p,4,none⟩=some (.int .i64 (s.blocks:Nat))
 f1:w.frozen? ⟨p,1,none⟩=false
 f3:w.frozen? ⟨p,3,none⟩=false
 f4:w.frozen? ⟨p,4,none⟩=false
 f5:w.frozen? ⟨p,5,none⟩=false
theorem RS.cells (h:RS B K p pb g bs lim w ov s):Rcs w p pb ov lim s:=by
 obtain ⟨fx,hb,_⟩:=h.blk;exact ⟨(hb.cell 0).trans rfl,(hb.cell 1).trans rfl,(hb.cell 2).trans rfl,(hb.cell 3).trans rfl,(hb.cell 4).trans rfl,hb.free 1,hb.free 3,hb.free 4,hb.free 5⟩
theorem RS.moved {m:Nat}{w':World}(h:RS B K p pb g bs lim w ov s) (k:qB w B 67 pb g bs m w') (hm:s.at_≤m) (hm':m≤8*bs.length) :
  RS B K p pb g bs lim w' ov { s with at_:=m }∧Mv p pb w ov w' ov:=by
 obtain ⟨ho,ht⟩:=k;obtain ⟨n1,n2,n3⟩:=h.ne;have hT:Touch (FT p pb ov) w w':=ht.mono fun i hi => .inr (.inl hi)
 obtain ⟨fx,hb,hf⟩:=h.blk;refine ⟨⟨⟨fx,hb.touch ht n1,hf.safe hT h.safe⟩,ho,zd h.own ht fun i hi e=>(n2 i hi).2 e,h.hp,h.row,h.len,h.lim_,hm',h.out,Nat.le_trans h.steps hm,Nat.le_trans h.blocks hm,h.bytes⟩,hT,fun _ x => .inl x⟩
theorem RS.drewN (h:RS B K p pb g bs lim w ov s) (q:Nat):RS B K p pb g bs lim (w.drewN q) ov s∧Mv p pb w ov (w.drewN q) ov:=by
 have:=h.moved ⟨h.ob.drewN q,(Touch.refl _ w).drewN q⟩ (Nat.le_refl _) h.in_;exact ⟨this.1,this.2⟩
theorem RS.grow {w':World}(h:RS B K p pb g bs lim w ov s) (k:Below w.heap.size w w'):RS B K p pb g bs lim w' ov s∧Mv p pb w ov w' ov:=by
 have ht:Touch (fun _=>False) w w':=Touch.of_below k;have:=h.moved (m:=s.at_) ⟨h.ob.touch ht fun _ _ h=>h,Touch.of_below k⟩ (Nat.le_refl _) h.in_;exact ⟨this.1,this.2⟩
theorem RS.setSteps (h:RS B K p pb g bs lim w ov s) (m:Nat) (hm:m≤s.at_){x:Int}(hx:x=(m:Int)) :
  RS B K p pb g bs lim (w.setCell ⟨p,3,none⟩ (.int .i64 x)) ov { s with steps:=m }∧Mv p pb w ov (w.setCell ⟨p,3,none⟩ (.int .i64 x)) ov:=by
 subst hx;obtain ⟨n1,n2,n3⟩:=h.ne;have ht:Touch (fun k=>k=p) w (w.setCell ⟨p,3,none⟩ (.int .i64 (m:Nat))):=(Touch.refl _ w).setCell _ _ (.inl rfl);have hT:Touch (FT p pb ov) w (w.setCell ⟨p,3,none⟩ (.int .i64 (m:Nat))):=ht.mono fun i hi => .inl hi
 obtain ⟨fx,hb,hf⟩:=h.blk;exact ⟨⟨⟨fx,hb.setCell 3 _,hf.safe hT h.safe⟩,h.ob.touch ht fun k hk e=>by rcases hk with hk | hk;exact n1 (e.symm.trans hk);exact (n3 k hk).1 e,zd h.own ht fun i hi e=>(n2 i hi).1 e,h.hp,h.row,h.len,h.lim_,h.in_,h.out,hm,h.blocks,h.bytes⟩,hT,fun _ x => .inl x⟩
theorem RS.setBlocks (h:RS B K p pb g bs lim w ov s) (m:Nat) (hm:m≤s.at_){x:Int}(hx:x=(m:Int)) :
  RS B K p pb g bs lim (w.setCell ⟨p,4,none⟩ (.int .i64 x)) ov { s with blocks:=m }∧Mv p pb w ov (w.setCell ⟨p,4,none⟩ (.int .i64 x)) ov:=by
 subst hx;obtain ⟨n1,n2,n3⟩:=h.ne;have ht:Touch (fun k=>k=p) w (w.setCell ⟨p,4,none⟩ (.int .i64 (m:Nat))):=(Touch.refl _ w).setCell _ _ (.inl rfl);have hT:Touch (FT p pb ov) w (w.setCell ⟨p,4,none⟩ (.int .i64 (m:Nat))):=ht.mono fun i hi => .inl hi
 obtain ⟨fx,hb,hf⟩:=h.blk;exact ⟨⟨⟨fx,hb.setCell 4 _,hf.safe hT h.safe⟩,h.ob.touch ht fun k hk e=>by rcases hk with hk | hk;exact n1 (e.symm.trans hk);exact (n3 k hk).1 e,zd h.own ht fun i hi e=>(n2 i hi).1 e,h.hp,h.row,h.len,h.lim_,h.in_,h.out,h.steps,hm,h.bytes⟩,hT,fun _ x => .inl x⟩
theorem RS.setOut {w1:World}{ov':Value}{xs:List Nat}(h:RS B K p pb g bs lim w ov s) (hA:Apd w B ov xs ov' w1) (hx:xs.length≤lim) (hb':Bs xs) :
  RS B K p pb g bs lim (w1.setCell ⟨p,1,none⟩ ov') ov' { s with out:=xs }∧Mv p pb w ov (w1.setCell ⟨p,1,none⟩ ov') ov':=by
 obtain ⟨n1,n2,n3⟩:=h.ne;obtain ⟨fx,hb,hf⟩:=h.blk;have hp:=hb.lt;have hT1:Touch (FT p pb ov) w w1:=hA.touch.mono fun i hi => .inr (.inr hi)
 have hT:Touch (FT p pb ov) w (w1.setCell ⟨p,1,none⟩ ov'):=hT1.setCell _ _ (.inl (.inl rfl));have ht2:Touch (fun k=>k=p) w1 (w1.setCell ⟨p,1,none⟩ ov'):=(Touch.refl _ w1).setCell _ _ (.inl rfl);have hb1:Blk w1 p 49 (rc pb ov lim s fx):=hb.touch hA.touch fun e=>(n2 _ e).1 rfl
 have hg:=h.ob.lt.2;have ho1:Ob w1 B 67 pb g bs s.at_:=h.ob.touch hA.touch fun k hk e=>by
  rcases hk with rfl | hk
  ·exact (n2 _ e).2 rfl
  ·exact h.row k e hk
 refine ⟨⟨⟨fx,hb1.setCell 1 _,hf.safe hT h.safe⟩,ho1.touch ht2 fun k hk e=>?_,zd hA.own ht2 fun i hi e=>?_,h.hp,fun k hk hgk=>?_,h.len,h.lim_,h.in_,hx,h.steps,h.blocks,hb'⟩,hT,hA.row⟩
 ·rcases hk with hk | hk
  ·exact n1 (e.symm.trans hk)
  ·exact (n3 k hk).1 e
 ·rcases hA.row i hi with h1 | h1
  ·exact (n2 i h1).1 e
  ·omega
 ·rcases hA.row k hk with h1 | h1
  ·exact h.row k h1 hgk
  ·have:=hg k hgk
   omega
def ROk (B K p pb:Nat) (g:Option Nat) (bs:List Nat) (lim:Nat) (w:World) (ov:Value) (v:Value) (s:Sta) (e:Ending) (w':World):Prop:=
 e=.returned v∧∃ ov',RS B K p pb g bs lim w' ov' s∧Mv p pb w ov w' ov'
def X5 (p pb:Nat) (w:World) (ov:Value) (er:Nat) (e:Ending) (w':World):Prop:=e=pan er∧Touch (FT p pb ov) w w'
def RTo {α : Type}(B K p pb:Nat) (g:Option Nat) (bs:List Nat) (lim:Nat) (w:World) (ov:Value) (enc : α → Value) (r:Res α) (e:Ending) (w':World):Prop:=
 match r with
 | .bad er=>X5 p pb w ov er e w'
 | .ok a s=>ROk B K p pb g bs lim w ov (enc a) s e w'
end
end
section
open Go.Lib renaming hid → J
open Go.RowKit
theorem qB.on {w w2:World}{B t p m q:Nat}{g:Option Nat}{bs:List Nat}(h:qB (w.drewN q) B t p g bs m w2):qB w B t p g bs m w2:=
 ⟨h.1,((Touch.refl _ w).drewN q).trans h.2⟩
theorem zcl {w:World}{base p:Nat}{g:Option Nat}{bs:List Nat}{at_:Nat}(h:Ob w base 67 p g bs at_) (hl:bs.length≤100000) (ha:at_≤8*bs.length) (X:Nat) (hX:pk bs at_ 15=X) :
  Calls prog 93 #[.pointer (some ⟨p,0,none⟩),.int .i64 15] w fun e w'=>e=.returned (.int .u32 X)∧w=w':=by
 subst hX;exact h.peek (by omega) ha 15 (by omega)
def zlm (w:World) (B p:Nat) (g:Option Nat) (bs:List Nat) (r:Res Nat) (e:Ending) (w':World):Prop:=
 match r with
 | .bad er=>e=.returned (.tuple #[.int .i64 0,.int .i64 (er:Nat)])∧∃ nq,w'=w.drewN nq
 | .ok y t=>e=.returned (.tuple #[.int .i64 (y:Nat),.int .i64 0])∧qB w B 67 p g bs t.at_ w'
set_option maxHeartbeats 1600000 in
theorem zit {w:World}{p pr at_ B:Nat}{g:Option Nat}{bs ls:List Nat}(h:zg w p ls) (hr:Ob w B 67 pr g bs at_) (hl:bs.length≤100000) (s:Nat) (hb:Beg ls (ahead bs at_) s) (hle:at_+ln ls s≤8*bs.length) :
  Calls prog 137 #[.pointer (some ⟨p,0,none⟩),.pointer (some ⟨pr,0,none⟩)] w fun e w'=>e=.returned (.tuple #[.int .i64 s,.int .i64 0])∧qB w B 67 pr g bs (at_+ln ls s) w':=by
 have HO:=J h.ok;have HC:=J h;have HR:=J hr;have hX:=vX bs at_ 15;have hA:=uf bs at_;have HB:=J hb;obtain ⟨X,hXe⟩:=exq (pk bs at_ 15);obtain ⟨A,hAe⟩:=exq (rv 15 X);obtain ⟨m,hm⟩:=exq (ln ls s);have hm1:1≤m:=by have:=hb.1;omega
 have hm15:m≤15:=by have:=z6 h.ok s;omega
 have hA':A=ahead bs at_:=by unfold ahead;rw [hAe,hXe]
 rw [←hXe] at hX;rw [←hA'] at hA;rw [←hm] at hle;have HX:=J hXe.symm;have HA:=J hAe.symm;have HA':=J hA';have HM:=J hm;clear h hr hXe hAe hA' hb;rw [←hm];clear hm;have hX':X<4294967296:=by omega
 have d1:decide ((8*(bs.length:Int)-at_)<m)=false:=by simp;omega
 have d2:((8*(bs.length:Int)-at_) == 0)=false:=by simp;omega
 have d3:((m:Int) == 0)=false:=by simp;omega
 have hK:Hid (∀ W,zg W p ls→Calls prog 165 #[.pointer (some ⟨p,0,none⟩),.int .i64 A] W fun e w'=>e=.returned (.tuple #[.int .i64 s,.int .i64 m])∧∃ nq,w'=W.drewN nq):=J fun W hW=>(jm p A ls W hW hA).mono fun e w' k=>by
  refine ⟨?_,k.2⟩;rcases k.1 with ⟨t,ht,he⟩ | ⟨hro,_⟩
  ·rw [HA'.out] at ht
   obtain rfl:=Qo HO.out HB.out ht;rw [he,HM.out]
  ·exact absurd HB.out (vu HO.out (by rw [←HA'.out];exact hro) s)
 go_enter func137,ntmps137;go_wp2_with (first
  | (go_at_call 93;(refine (zcl HR.out hl (by omega) X HX.out).mono ?_);rintro e w2 ⟨rfl,rfl⟩)
  | (go_at_call 164;(refine (xz X 15 _ hX' (by omega)).mono ?_);rw [HA.out];rintro e w2 ⟨rfl,rfl⟩)
  | (go_at_call 165;(refine (hK.out _ HC.out).mono ?_);rintro e w2 ⟨rfl,nq,rfl⟩)
  | (go_at_call 135;(refine ((HR.out.drewN _).left (by omega) (by omega)).mono ?_);rintro e w3 ⟨rfl,nq3,rfl⟩)
  | (go_at_call 94;(refine ((HR.out.drewN _).skip_yes (by omega) m (by omega)).mono ?_);rintro e w4 ⟨rfl,hr4⟩;have HR4:=J hr4;clear hr4))
 go_ret2
 exact ⟨rfl,HR4.out.on⟩
set_option maxHeartbeats 1600000 in
theorem ui {w:World}{p pr at_ B:Nat}{g:Option Nat}{bs ls:List Nat}(h:zg w p ls) (hr:Ob w B 67 pr g bs at_) (hl:bs.length≤100000) (ha:at_≤8*bs.length) (t m:Nat) (hm:m≤15) (hf:Finds p (ahead bs at_) ls t m) (er:Nat)
  (hc:(er=15∧(8*bs.length<at_+m∨at_=8*bs.length))∨(er=10∧m=0∧at_<8*bs.length)) :
  Calls prog 137 #[.pointer (some ⟨p,0,none⟩),.pointer (some ⟨pr,0,none⟩)] w fun e w'=>e=.returned (.tuple #[.int .i64 0,.int .i64 (er:Nat)])∧∃ nq,w'=w.drewN nq:=by
 have HC:=J h;have HR:=J hr;have hX:=vX bs at_ 15;have hA:=uf bs at_;obtain ⟨X,hXe⟩:=exq (pk bs at_ 15);obtain ⟨A,hAe⟩:=exq (rv 15 X);have hA':A=ahead bs at_:=by unfold ahead;rw [hAe,hXe]
 rw [←hA'] at hf hA;rw [←hXe] at hX;have HX:=J hXe.symm;have HA:=J hAe.symm;have HF:Hid (∀ W,zg W p ls→Calls prog 165 #[.pointer (some ⟨p,0,none⟩),.int .i64 A] W fun e w'=>e=.returned (.tuple #[.int .i64 t,.int .i64 m])∧∃ nq,w'=W.drewN nq):=J hf;clear h hr hXe hAe hA' hf;have hX':X<4294967296:=by omega
 rcases hc with ⟨rfl,hc⟩ | ⟨rfl,rfl,hc⟩
 ·by_cases h1:8*bs.length<at_+m
  ·have d1:decide ((8*(bs.length:Int)-at_)<m)=true:=by simp;omega
   clear hc;go_enter func137,ntmps137;go_wp2_with (first
    | (go_at_call 93;(refine (zcl HR.out hl (by omega) X HX.out).mono ?_);rintro e w2 ⟨rfl,rfl⟩)
    | (go_at_call 164;(refine (xz X 15 _ hX' (by omega)).mono ?_);rw [HA.out];rintro e w2 ⟨rfl,rfl⟩)
    | (go_at_call 165;(with_reducible refine (HF.out _ HC.out).mono ?_);rintro e w2 ⟨rfl,nq,rfl⟩)
    | (go_at_call 135;(refine ((HR.out.drewN _).left (by omega) (by omega)).mono ?_);rintro e w3 ⟨rfl,nq3,rfl⟩))
   go_ret2
   exact ⟨rfl,_,rfl⟩
  ·have h2:at_=8*bs.length:=by omega
   have h3:m=0:=by omega
   have d1:decide ((8*(bs.length:Int)-at_)<(0:Nat))=false:=by simp;omega
   have d2:((8*(bs.length:Int)-at_) == 0)=true:=by simp;omega
   have H2:=J h2;subst h3;clear hc h1 h2;go_enter func137,ntmps137;go_wp2_with (first
    | (go_at_call 93;(refine (zcl HR.out hl (by omega) X HX.out).mono ?_);rintro e w2 ⟨rfl,rfl⟩)
    | (go_at_call 164;(refine (xz X 15 _ hX' (by omega)).mono ?_);rw [HA.out];rintro e w2 ⟨rfl,rfl⟩)
    | (go_at_call 165;(with_reducible refine (HF.out _ HC.out).mono ?_);rintro e w2 ⟨rfl,nq,rfl⟩)
    | (go_at_call 135;(refine ((HR.out.drewN _).left (by omega) (by omega)).mono ?_);rintro e w3 ⟨rfl,nq3,rfl⟩))
   go_ret2
   exact ⟨rfl,_,rfl⟩
 ·have d1:decide ((8*(bs.length:Int)-at_)<(0:Nat))=false:=by simp;omega
  have d2:((8*(bs.length:Int)-at_) == 0)=false:=by simp;omega
  go_enter func137,ntmps137;go_wp2_with (first
   | (go_at_call 93;(refine (zcl HR.out hl (by omega) X HX.out).mono ?_);rintro e w2 ⟨rfl,rfl⟩)
   | (go_at_call 164;(refine (xz X 15 _ hX' (by omega)).mono ?_);rw [HA.out];rintro e w2 ⟨rfl,rfl⟩)
   | (go_at_call 165;(with_reducible refine (HF.out _ HC.out).mono ?_);rintro e w2 ⟨rfl,nq,rfl⟩)
   | (go_at_call 135;(refine ((HR.out.drewN _).left (by omega) (by omega)).mono ?_);rintro e w3 ⟨rfl,nq3,rfl⟩))
  go_ret2
  exact ⟨rfl,_,rfl⟩
theorem zfI {w:World}{p pr B:Nat}{g:Option Nat}{bs ls:List Nat}{s:Sta}(h:zg w p ls) (hr:Ob w B 67 pr g bs s.at_) (hl:bs.length≤100000) (ha:s.at_≤8*bs.length) :
  Calls prog 137 #[.pointer (some ⟨p,0,none⟩),.pointer (some ⟨pr,0,none⟩)] w (zlm w B pr g bs (rdS bs ls s)):=by
 have hf:=vL (p:=p) h.ok (uf bs s.at_);by_cases h1:s.at_=8*bs.length
 ·have hr':rdS bs ls s=.bad 15:=by unfold rdS;rw [if_pos h1]
  rw [hr'];rcases hf with ⟨y,hb,hF⟩ | ⟨_,hF⟩
  ·exact ui h hr hl ha y _ (z6 h.ok y) hF 15 (.inl ⟨rfl,.inr h1⟩)
  ·exact ui h hr hl ha 0 0 (by omega) hF 15 (.inl ⟨rfl,.inr h1⟩)
 ·rcases hf with ⟨y,hb,hF⟩ | ⟨hro,hF⟩
  ·by_cases h2:s.at_+ln ls y≤8*bs.length
   ·have hr':rdS bs ls s=.ok y { s with at_:=s.at_+ln ls y }:=by unfold rdS;rw [if_neg h1,kq h.ok hb];simp only;rw [if_pos h2]
    rw [hr'];exact zit h hr hl y hb h2
   ·have hr':rdS bs ls s=.bad 15:=by unfold rdS;rw [if_neg h1,kq h.ok hb];simp only;rw [if_neg h2]
    rw [hr'];exact ui h hr hl ha y _ (z6 h.ok y) hF 15 (.inl ⟨rfl,.inl (by omega)⟩)
  ·have hr':rdS bs ls s=.bad 10:=by
    unfold rdS;rw [if_neg h1];cases hfb:yH ls (ahead bs s.at_) with
    | none=>rfl
    | some z=>exact absurd (jR hfb) (vu h.ok hro z)
   rw [hr'];exact ui h hr hl ha 0 0 (by omega) hF 10 (.inr ⟨rfl,rfl,by omega⟩)
section
variable {B K p pb:Nat}{g:Option Nat}{bs:List Nat}{lim:Nat}{w:World}{ov:Value}{s:Sta}
abbrev nv (n:Nat):Value:=.int .i64 (n:Nat)
theorem zY (h:RS B K p pb g bs lim w ov s) (n:Nat) (hn:n≤16) :
  Calls prog 38 #[.pointer (some ⟨p,0,none⟩),.int .i64 n] w (RTo B K p pb g bs lim w ov nv (rdN bs n s)):=by
 have hl:=h.len;have hi:=h.in_;obtain ⟨c0⟩:=h.cells;by_cases hle:s.at_+n≤8*bs.length
 ·have hr:rdN bs n s=.ok (pk bs s.at_ n) { s with at_:=s.at_+n }:=by unfold rdN;rw [if_pos hle]
  rw [hr];have hV:=vX bs s.at_ n;have hV2:pk bs s.at_ n<65536:=Nat.lt_of_lt_of_le hV (Nat.le_trans (Nat.pow_le_pow_right (by omega) hn) (by decide:2^16≤65536));have HB:=J (h.ob.bits_yes (by omega) n (by omega) hle);have HM:=J fun w' (k:qB w B 67 pb g bs (s.at_+n) w')=>h.moved k (by omega) hle
  obtain ⟨V,hVe⟩:=exq (pk bs s.at_ n);rw [←hVe] at hV2 HB ⊢;clear h hr hV hVe;go_enter func38,ntmps38;go_wp2_with (first
   | (go_at_call 59;(refine HB.out.mono ?_);rintro e w2 ⟨rfl,hm⟩;have H2:=J (HM.out _ hm);clear hm)
   | (go_at_call 60;refine (zE _ _).mono ?_;rintro e w3 ⟨rfl,rfl⟩))
  go_ret;exact ⟨rfl,ov,H2.out⟩
 ·have hr:rdN bs n s=.bad 15:=by unfold rdN;rw [if_neg hle]
  rw [hr];have HB:=J (h.ob.bits_no (by omega) hi n (by omega));clear h hr;go_enter func38,ntmps38;go_wp2_with (first
   | (go_at_call 59;(refine HB.out.mono ?_);rintro e w2 ⟨rfl,nq,rfl⟩)
   | (go_at_call 60;refine (qa 15 _).mono ?_;rintro e w3 ⟨rfl,rfl⟩))
  exact ⟨rfl,rfl,(Touch.refl _ w).drewN nq⟩
theorem yo {pc:Nat}{ls:List Nat}(h:RS B K p pb g bs lim w ov s) (hc:zg w pc ls) :
  Calls prog 98 #[.pointer (some ⟨p,0,none⟩),.pointer (some ⟨pc,0,none⟩)] w (RTo B K p pb g bs lim w ov nv (rdS bs ls s)):=by
 obtain ⟨c0⟩:=h.cells;have HN:=J (zfI hc h.ob h.len h.in_);have H:=J h;cases hr:rdS bs ls s with
 | bad er=>
  rw [hr] at HN;have her:er=15∨er=10:=by
   unfold rdS at hr;split at hr
   ·cases hr;exact .inl rfl
   ·split at hr
    ·cases hr;exact .inr rfl
    ·split at hr
     ·cases hr
     ·cases hr;exact .inl rfl
  have hd:((er:Int) == 0)=false:=by simp;omega
  clear h hc hr her;go_enter func98,ntmps98;go_wp2_with (first
   | (go_at_call 137;(refine HN.out.mono ?_);rintro e w2 ⟨rfl,nq,rfl⟩)
   | (go_at_call 60;refine (qa er _).mono ?_;rintro e w3 ⟨rfl,rfl⟩))
  exact ⟨rfl,rfl,(Touch.refl _ w).drewN nq⟩
 | ok y t=>
  rw [hr] at HN;obtain ⟨_,k1,k2,k3⟩:=xU hr;have HK:=J (And.intro k2 k3);clear h hc hr k1 k2 k3;go_enter func98,ntmps98;go_wp2_with (first
   | (go_at_call 137;(refine HN.out.mono ?_);rintro e w2 ⟨rfl,hm⟩;have HM:=J hm;clear hm)
   | (go_at_call 60;refine (zE _ _).mono ?_;rintro e w3 ⟨rfl,rfl⟩))
  go_ret;obtain ⟨k2,rfl⟩:=HK.out;exact ⟨rfl,ov,H.out.moved HM.out (Nat.le_add_right _ _) k2⟩
end
section
variable {B K p pb:Nat}{g:Option Nat}{bs:List Nat}{lim:Nat}{w:World}{ov:Value}{s:Sta}
def Roomy (w:World) (ok:Bool) (e:Ending) (w':World):Prop:=(if ok then e=.returned (.tuple #[]) else e=pan 14)∧∃ nq,w'=w.drewN nq
theorem RS.slice (h:RS B K p pb g bs lim w ov s):∃ ao c,ov=.slice ao s.out.length c:=zr h.own
theorem jT (h:RS B K p pb g bs lim w ov s) (n:Nat) :
  Calls prog 97 #[.pointer (some ⟨p,0,none⟩),.int .i64 n] w (Roomy w (decide (s.out.length+n≤lim))):=by
 have ho:=h.out;have hl:=h.lim_;have k:=h.cells;have c1:=k.c1;have c2:=k.c2;obtain ⟨ao,c,rfl⟩:=h.slice;obtain ⟨m,hm⟩:=exq (s.out.length);rw [←hm] at ho c1 ⊢;clear h k hm;have e1:IntKind.i64.wrap ((lim:Int)-(m:Int))=((lim-m:Nat):Int):=by rw [IntKind.wrap_i64];omega
 obtain ⟨d,hd⟩:=exq (lim-m);rw [←hd] at e1;by_cases hr:m+n≤lim
 ·have d1:decide (n≤d)=true:=by simp;omega
  have d2:decide ((n:Int)≤(d:Int))=true:=by simp;omega
  rw [decide_eq_true hr];clear hd hr;go_enter func97,ntmps97;go_still_tail 12,(by kernel_rfl)
  change wpList _ _ _ _ _ w.drew;go_wp2_with (go_at_call 60;refine (zE _ _).mono ?_;rintro e w3 ⟨rfl,rfl⟩);go_end0;exact ⟨rfl,1,rfl⟩
 ·have d1:decide (n≤d)=false:=by simp;omega
  have d2:decide ((n:Int)≤(d:Int))=false:=by simp;omega
  rw [decide_eq_false hr];clear hd hr;go_enter func97,ntmps97;go_still_tail 12,(by kernel_rfl)
  change wpList _ _ _ _ _ w.drew;go_wp2_with (go_at_call 60;refine (qa 14 _).mono ?_;rintro e w3 ⟨rfl,rfl⟩);exact ⟨rfl,rfl,1,rfl⟩
theorem Jp:Calls prog 138 #[.pointer (some ⟨p,0,none⟩),.int .i64 0,.int .i64 0,.bool false] w (X5 p pb w ov 10):=by
 go_enter func138,ntmps138;go_wp2_with (go_at_call 60;refine (qa 10 _).mono ?_;rintro e w3 ⟨rfl,rfl⟩);exact ⟨rfl,rfl,Touch.refl _ _⟩
theorem J1 (h:RS B K p pb g bs lim w ov s) (x:Nat × Nat) (h1:x.1≤100000) (h2:x.2≤16) :
  Calls prog 138 #[.pointer (some ⟨p,0,none⟩),.int .i64 x.1,.int .i64 x.2,.bool true] w (RTo B K p pb g bs lim w ov nv (grown bs (some x) s)):=by
 have HN:=J (zY h x.2 h2);obtain ⟨a,b⟩:=x;simp only at h1 h2 ⊢;unfold grown;cases hr:rdN bs b s with
 | bad er=>
  simp only [hr] at HN;simp only [hr,Res.bind_bad];clear h hr;go_enter func138,ntmps138;go_wp2_with (first
   | (go_at_call 60;refine (zE _ _).mono ?_;rintro e w3 ⟨rfl,rfl⟩)
   | (go_at_call 38;(refine HN.out.mono ?_);rintro e w2 ⟨rfl,ht⟩))
  exact ⟨rfl,rfl,ht⟩
 | ok v t=>
  simp only [hr] at HN;simp only [hr,Res.bind_ok];have hv:v<65536:=by
   obtain ⟨_,h4,_⟩:=xn hr;rw [h4];exact Nat.lt_of_lt_of_le (vX bs s.at_ b) (Nat.le_trans (Nat.pow_le_pow_right (by omega) h2) (by decide:2^16≤65536))
  clear h hr;go_enter func138,ntmps138;go_wp2_with (first
   | (go_at_call 60;refine (zE _ _).mono ?_;rintro e w3 ⟨rfl,rfl⟩)
   | (go_at_call 38;(refine HN.out.mono ?_);rintro e w2 ⟨rfl,ht⟩;have HT:=J ht;clear ht))
  go_ret;exact ⟨by simp [nv],HT.out⟩
theorem zag {y:Nat}{x:Nat × Nat}(h:lenOf y=some x):x.1≤1000∧x.2≤16:=by
 unfold lenOf at h;split at h
 ·cases h
 ·split at h
  ·cases h;exact ⟨by decide,by decide⟩
  ·split at h
   ·cases h;exact ⟨by show y-254≤1000;omega,Nat.zero_le _⟩
   ·cases h
    have h1:(y-257)/4-1≤6:=by omega
    have h2:2^((y-257)/4-1)≤2^6:=Nat.pow_le_pow_right (by omega) h1;have h3:=Nat.mul_le_mul (show 4+(y-257)%4≤8 by omega) h2;exact ⟨by show 3+_≤1000;omega,by show (y-257)/4-1≤16;omega⟩
theorem Uh {y:Nat}{x:Nat × Nat}(h:xu y=some x):1≤x.1∧x.1≤60000∧x.2≤16:=by
 unfold xu at h;split at h
 ·cases h
 ·split at h
  ·cases h;exact ⟨by show 1≤1+y;omega,by show 1+y≤60000;omega,Nat.zero_le _⟩
  ·cases h
   have h1:y/2-1≤13:=by omega
   have h2:2^(y/2-1)≤2^13:=Nat.pow_le_pow_right (by omega) h1;have h3:=Nat.mul_le_mul (show 2+y%2≤3 by omega) h2;exact ⟨by show 1≤1+_;omega,by show 1+_≤60000;omega,by show y/2-1≤16;omega⟩
theorem jC (far n:Nat):∀ l,back far (n+1) l=back far n l++[(back far n l).getD ((back far n l).length-far) 0]:=by
 induction n with
 | zero=>intro l;rfl
 | succ n ih=>intro l;rw [back,ih];rfl
theorem RS.mid {w1:World}{ov':Value}{xs:List Nat}{o:Obj}(h:RS B K p pb g bs lim w ov s) (hA:Apd (w.alloc o).drew B ov xs ov' w1) (hx:xs.length≤lim) (hb':Bs xs) :
  w1.cell? ⟨p,1,none⟩=some ov∧w1.frozen? ⟨p,1,none⟩=false∧RS B K p pb g bs lim (w1.setCell ⟨p,1,none⟩ ov') ov' { s with out:=xs }∧Mv p pb w ov (w1.setCell ⟨p,1,none⟩ ov') ov':=by
 obtain ⟨h1,k1⟩:=h.grow (zQ ((Below.refl _ w).alloc (Nat.le_refl _) o));obtain ⟨fx,hb,_⟩:=h1.blk;have hb1:Blk w1 p 49 (rc pb ov lim s fx):=hb.touch hA.touch fun e=>((h1.ne).2.1 _ e).1 rfl
 obtain ⟨h2,k2⟩:=h1.setOut hA hx hb';exact ⟨(hb1.cell 1).trans rfl,hb1.free 1,h2,k1.trans k2⟩
theorem RS.byte (h:RS B K p pb g bs lim w ov s) (k:Nat) (hk:k<s.out.length):∃ b c,ov=.slice (some ⟨b,0,none⟩) s.out.length c∧s.out.length≤c∧w.cell? ⟨b,k,none⟩=some (.int .u8 (s.out.getD k 0:Nat)):=by
 rcases h.own.2 with ⟨_,hl⟩ | ⟨g',cap,cur,rfl,_,hh,hc,_⟩
 ·omega
 ·exact ⟨g',cap,rfl,hc,jn h.own k hk⟩
end
section
variable {B K p pb:Nat}{g:Option Nat}{bs:List Nat}{lim:Nat}{w:World}{ov:Value}{s:Sta}
abbrev uv (_:Unit):Value:=.tuple #[]
theorem XI {x:Nat × Nat}{t:Sta}{n:Nat}(h:grown bs (some x) s=.ok n t) (hx:x.2≤16):x.1≤n∧n<x.1+65536:=by
 obtain ⟨v,s',h1,h2⟩:=Res.bind_is h;cases h2;obtain ⟨_,h4,_⟩:=xn h1;have:v<65536:=by
  rw [h4];exact Nat.lt_of_lt_of_le (vX bs s.at_ x.2) (Nat.le_trans (Nat.pow_le_pow_right (by omega) hx) (by decide:2^16≤65536))
 omega
theorem RTo.bad {α : Type}{enc : α → Value}{R:Res α}{er:Nat}{w':World}(e:R=.bad er) (ht:Touch (FT p pb ov) w w'):RTo B K p pb g bs lim w ov enc R (pan er) w':=by
 subst e;exact ⟨rfl,ht⟩
theorem RTo.ok {α : Type}{enc : α → Value}{R:Res α}{a : α}{t:Sta}{w':World}{ov':Value}(e:R=.ok a t) (h:RS B K p pb g bs lim w' ov' t) (m:Mv p pb w ov w' ov'):RTo B K p pb g bs lim w ov enc R (.returned (enc a)) w':=by
 subst e;exact ⟨rfl,ov',h,m⟩
set_option maxHeartbeats 3200000 in
theorem zdi {pc:Nat}{ol:List Nat}(h:RS B K p pb g bs lim w ov s) (hc:zg w pc ol) (y:Nat) :
  Calls prog 99 #[.pointer (some ⟨p,0,none⟩),.int .i64 y,.pointer (some ⟨pc,0,none⟩)] w (RTo B K p pb g bs lim w ov uv (again bs lim ol y s)):=by
 obtain ⟨R,hR⟩:=exq (again bs lim ol y s);rw [←hR];unfold again at hR;have HL:=J fun W=>yu y W
 cases hL:lenOf y with
 | none=>
  simp only [hL,tells] at HL;rw [hL] at hR;have HR:=J hR;clear h hc hL hR;go_enter func99,ntmps99;go_wp2_with (first
   | (go_at_call 76;refine (HL.out _).mono ?_;rintro e w3 ⟨rfl,rfl⟩)
   | (go_at_call 138;refine (Jp (p:=p) (pb:=pb) (ov:=ov)).mono ?_;rintro e w3 ⟨rfl,ht⟩))
  exact ⟨rfl,RTo.bad HR.out ht⟩
 | some x=>
  have hx:=zag hL;simp only [hL,tells] at HL;rw [hL] at hR;have HR:=J hR;clear hL hR;go_enter func99,ntmps99;go_wp2_with fail
  refine (HL.out _).mono ?_;rintro e w0 ⟨rfl,rfl⟩;go_wp2_with fail
  refine (J1 h x (by omega) hx.2).mono ?_;rintro e w1 h1;cases hr1:grown bs (some x) s with
  | bad er=>
   rw [hr1] at h1;obtain ⟨rfl,ht⟩:=h1;have hR:=HR.out;rw [hr1] at hR;have HR1:=J hR;clear hr1 h hc hR;go_wp2;exact ⟨rfl,RTo.bad HR1.out ht⟩
  | ok n s1=>
   rw [hr1] at h1;obtain ⟨rfl,ov1,h1,m1⟩:=h1;have hn:n≤100000:=by have:=XI hr1 hx.2;omega
   have hc1:=hc.safe m1.touch h.safe;have hR:=HR.out;rw [hr1,Res.bind_ok] at hR;have HR1:=J hR;clear hr1 hR HR;go_wp2_with fail
   refine (yo h1 hc1).mono ?_;rintro e w2 h2;cases hr2:rdS bs ol s1 with
   | bad er=>
    rw [hr2] at h2;obtain ⟨rfl,ht⟩:=h2;have HT:=J (m1.bad ht);have hR:=HR1.out;rw [hr2] at hR;have HR2:=J hR;clear hr2 h hc h1 hc1 m1 ht hR;go_wp2;exact ⟨rfl,RTo.bad HR2.out HT.out⟩
   | ok d s2=>
    rw [hr2] at h2;obtain ⟨rfl,ov2,h2,m2⟩:=h2;have M2:=J (m1.trans m2);have hR:=HR1.out;rw [hr2,Res.bind_ok] at hR;clear hr2 m1 m2 h1 hc1 hc HR1;have HD:=J fun W=>jP d W
    cases hD:xu d with
    | none=>
     simp only [hD,tells] at HD;rw [hD] at hR;have HR:=J hR;clear hD h h2 hR;go_wp2_with (first
      | (go_at_call 77;refine (HD.out _).mono ?_;rintro e w3 ⟨rfl,rfl⟩)
      | (go_at_call 138;refine (Jp (p:=p) (pb:=pb) (ov:=ov2)).mono ?_;rintro e w3 ⟨rfl,ht⟩))
     exact ⟨rfl,RTo.bad HR.out (M2.out.bad ht)⟩
    | some z=>
     have hz:=Uh hD;simp only [hD,tells] at HD;rw [hD] at hR;have HR:=J hR;clear hD hR;go_wp2_with fail
     refine (HD.out _).mono ?_;rintro e w02 ⟨rfl,rfl⟩;go_wp2_with fail
     refine (J1 h2 z (by omega) hz.2.2).mono ?_;rintro e w3 h3;cases hr3:grown bs (some z) s2 with
     | bad er=>
      rw [hr3] at h3;obtain ⟨rfl,ht⟩:=h3;have hR:=HR.out;rw [hr3] at hR;have HR1:=J hR;clear hr3 h h2 hR HR;go_wp2;exact ⟨rfl,RTo.bad HR1.out (M2.out.bad ht)⟩
     | ok far s3=>
      rw [hr3] at h3;obtain ⟨rfl,ov3,h3,m3⟩:=h3;have hf:=XI hr3 hz.2.2;have M3:=J (M2.out.trans m3);have hR:=HR.out;rw [hr3,Res.bind_ok] at hR;clear hr3 m3 M2 h h2 HR;have c1:=h3.cells.c1;obtain ⟨ao,c,rfl⟩:=h3.slice;have hout:=h3.out;have hlim:=h3.lim_;have H3:=J h3;obtain ⟨m,hm⟩:=exq (s3.out.length);have HM:=J hm;rw [←hm] at c1 hout H3 M3 hR;clear h3 hm;by_cases h4:m<far
      ·have d1:decide (far≤m)=false:=by simp;omega
       have d2:decide ((far:Int)≤(m:Int))=false:=by simp;omega
       rw [if_pos h4] at hR;have HR:=J hR;clear h4 hR;go_wp2_with (go_at_call 60;refine (qa 10 _).mono ?_;rintro e w4 ⟨rfl,rfl⟩);exact ⟨rfl,RTo.bad HR.out M3.out.touch⟩
      ·have d1:decide (far≤m)=true:=by simp;omega
       have d2:decide ((far:Int)≤(m:Int))=true:=by simp;omega
       rw [if_neg h4] at hR;have HR:=J hR;clear hR;go_wp2_with (go_at_call 60;refine (zE _ _).mono ?_;rintro e w4 ⟨rfl,rfl⟩);have hNR:=jT H3.out n;rw [←HM.out] at hNR;refine hNR.mono ?_;clear hNR;rintro e w5 ⟨he,nq,rfl⟩;by_cases h5:lim<m+n
       ·rw [if_neg (by simpa using h5)] at he
        subst he;have hR:=HR.out;rw [if_pos h5] at hR;have HR1:=J hR;clear h4 h5 hR HR;go_wp2;exact ⟨rfl,RTo.bad HR1.out (M3.out.trans (H3.out.drewN nq).2).touch⟩
       ·rw [if_pos (by simpa using h5)] at he
        subst he;have hR:=HR.out;rw [if_neg h5] at hR;have HR1:=J hR;obtain ⟨h6,m6⟩:=H3.out.drewN nq;have M6:=J (M3.out.trans m6);have H6:=J h6;have hmn:m+n≤lim:=by omega
        have hfm:far≤m:=by omega
        have hf1:1≤far:=by omega
        clear h4 h5 hR HR c1 d1 d2 h6 m6 H3 M3 hf;go_wp2;go_loopw [36] (fun iv' wr=>∃ (j:Nat) (ov':Value),j≤n∧iv' = .int .i64 j∧RS B K p pb g bs lim wr ov' { s3 with out:=back far j s3.out }∧Mv p pb w ov wr ov') (fun iv' _=>n-(intOf iv').toNat)
        case atStart=>exact ⟨0,_,Nat.zero_le _,rfl,H6.out,M6.out⟩
        case round=>
         clear H6 M6;obtain ⟨j,ov4,hj,rfl,h7,m7⟩:=hrel;by_cases hlt:j<n
         ·obtain ⟨xs,hxs⟩:=exq (back far j s3.out)
          have hxl:xs.length=m+j:=by rw [hxs,xw,←HM.out]
          rw [←hxs] at h7;obtain ⟨k,hk⟩:=exq (xs.length-far);have hkl:k<xs.length:=by omega
          have hk1:(k:Int)<xs.length:=by omega
          have e1:IntKind.i64.wrap ((xs.length:Int)-(far:Int))=(k:Int):=by rw [IntKind.wrap_i64];omega
          obtain ⟨b,c4,rfl,hc4,q0⟩:=h7.byte k hkl;obtain ⟨V,hV⟩:=exq (xs.getD k 0);have hV256:V<256:=by rw [hV];exact yR h7.bytes k
          have hnx:xs++[V]=back far (j+1) s3.out:=by rw [jC,←hxs,hV,hk]
          have hxb:xs.length≤3000000:=by omega
          have hj1:(xs++[V]).length≤lim:=by rw [List.length_append,List.length_singleton];omega
          have hbV:=yZ h7.bytes hV256;have p1:=h7.cells.c1;have hbo:=(h7.own.lt b rfl).2;have hpl:p<wr.heap.size:=by obtain ⟨fx,hb,_⟩:=h7.blk;exact hb.lt
          have hB:=h7.size;have H7:=J h7;have HOWN:=J h7.own;have M7:=J m7;have HNX:=J hnx;have q0':wr.cell? ⟨b,k,none⟩=some (.int .u8 (V:Nat)):=by rw [hV];exact q0
          clear q0 hV hxs hnx h7 m7 hk hxl;go_wp2;go_region_law (refine qJ rfl (.tmp 42) (.tmp 56) rfl B (.slice (some ⟨b,0,none⟩) xs.length c4) (.slice (some ⟨wr.heap.size,0,none⟩) 1 1) xs [V] (by simp [Act.eval]) (by simp [Act.eval]) (World.ownsRow.alloc (w:=wr) HOWN.out _) (yq wr V rfl) (by simp;omega) (by simp;omega) ?_;intro ao2 cc2 w4 hA;obtain ⟨r1,r2,r3,r4⟩:=H7.out.mid hA hj1 hbV;rw [List.length_append,List.length_singleton] at r3 r4;have R3:=J r3;have R4:=J r4;clear r3 r4 hA)
          all_goals
           go_wp2;go_roundw;case rel=>exact ⟨j+1,_,by omega,by go_num,by rw [←HNX.out];exact R3.out,M7.out.trans R4.out⟩
           case measure=>simp [intOf];omega
         ·have hj':j=n:=by omega
          subst hj';have H7:=J h7;have M7:=J m7;clear h7 m7;go_wp2;go_end0;exact RTo.ok HR1.out H7.out M7.out
end
section
variable {B K p pb:Nat}{g:Option Nat}{bs:List Nat}{lim:Nat}{w:World}{ov:Value}{s:Sta}
theorem yG {fl ol:List Nat}(hs:s.at_≤8*bs.length):xF bs lim fl ol s=(rdS bs fl s).bind fun y s1=>
  if y<256 then (if lim<s1.out.length+1 then .bad 14 else xF bs lim fl ol { s1 with steps:=s1.steps+1,out:=s1.out++[y] })
  else if y=256 then .ok () { s1 with steps:=s1.steps+1 }
  else (again bs lim ol y { s1 with steps:=s1.steps+1 }).bind fun _ s2=>xF bs lim fl ol s2:=by
 unfold xF;rw [xl (yt fl ol) () hs];unfold zan;cases hr:rdS bs fl s with
 | bad e=>rfl
 | ok y s1=>
  simp only [Res.bind_ok];split
  ·split
   ·rfl
   ·rfl
  ·split
   ·rfl
   ·cases again bs lim ol y { s1 with steps:=s1.steps+1 } with
    | bad e=>rfl
    | ok u s2=>rfl
structure Sx (B K p pb:Nat) (g:Option Nat) (bs:List Nat) (lim:Nat) (w:World) (ov:Value) (q p1 p2:Nat) (fl ol:List Nat) (wr:World) (ov':Value) (s':Sta):Prop where
 rs:RS B K p pb g bs lim wr ov' s'
 mv:Mv p pb w ov wr ov'
 box:Blk wr q 111 #[.pointer (some ⟨p1,0,none⟩),.pointer (some ⟨p2,0,none⟩)]
 c1:zg wr p1 fl
 c2:zg wr p2 ol
theorem Sx.on {q p1 p2:Nat}{fl ol:List Nat}{wr w':World}{ov' ov2:Value}{s' s2:Sta}(h:Sx B K p pb g bs lim w ov q p1 p2 fl ol wr ov' s') (k:RS B K p pb g bs lim w' ov2 s2) (m:Mv p pb wr ov' w' ov2) :
  Sx B K p pb g bs lim w ov q p1 p2 fl ol w' ov2 s2:=
 ⟨k,h.mv.trans m,h.box.safe m.touch h.rs.safe (by decide),h.c1.safe m.touch h.rs.safe,h.c2.safe m.touch h.rs.safe⟩
theorem RS.mid0 {w1:World}{ov':Value}{xs:List Nat}{o:Obj}(h:RS B K p pb g bs lim w ov s) (hA:Apd (w.alloc o) B ov xs ov' w1) (hx:xs.length≤lim) (hb':Bs xs) :
  w1.cell? ⟨p,1,none⟩=some ov∧w1.frozen? ⟨p,1,none⟩=false∧RS B K p pb g bs lim (w1.setCell ⟨p,1,none⟩ ov') ov' { s with out:=xs }∧Mv p pb w ov (w1.setCell ⟨p,1,none⟩ ov') ov':=by
 obtain ⟨h1,k1⟩:=h.grow ((Below.refl _ w).alloc (Nat.le_refl _) o);obtain ⟨fx,hb,_⟩:=h1.blk;have hb1:Blk w1 p 49 (rc pb ov lim s fx):=hb.touch hA.touch fun e=>((h1.ne).2.1 _ e).1 rfl
 obtain ⟨h2,k2⟩:=h1.setOut hA hx hb';exact ⟨(hb1.cell 1).trans rfl,hb1.free 1,h2,k1.trans k2⟩
set_option maxHeartbeats 3200000 in
theorem uX {p1 p2:Nat}{fl ol:List Nat}(h:RS B K p pb g bs lim w ov s) (hc1:zg w p1 fl) (hc2:zg w p2 ol) :
  Calls prog 62 #[.pointer (some ⟨p,0,none⟩),.agg #[.pointer (some ⟨p1,0,none⟩),.pointer (some ⟨p2,0,none⟩)]] w (RTo B K p pb g bs lim w ov uv (xF bs lim fl ol s)):=by
 obtain ⟨R,hR⟩:=exq (xF bs lim fl ol s);rw [←hR];have hw1:Below w.heap.size w (w.alloc (.cells #[.pointer (some ⟨p1,0,none⟩),.pointer (some ⟨p2,0,none⟩)] 111)):=(Below.refl _ w).alloc (Nat.le_refl _) _;obtain ⟨h1,m1⟩:=h.grow hw1;have H1:Hid (Sx B K p pb g bs lim w ov w.heap.size p1 p2 fl ol (w.alloc (.cells #[.pointer (some ⟨p1,0,none⟩),.pointer (some ⟨p2,0,none⟩)] 111)) ov s):=
  J ⟨h1,m1,Blk.made _ _ _,hc1.below hw1,hc2.below hw1⟩
 have HR0:=J hR.symm;obtain ⟨q,hq⟩:=exq (w.heap.size);clear h hc1 hc2 hw1 h1 m1 hR;go_enter func62,ntmps62;go_wp2;rw [←hq] at H1 ⊢;clear hq;go_loopg [] (8*bs.length+1) (fun gm wr=>∃ (ov':Value) (s':Sta),8*bs.length+1-s'.at_≤gm∧Hid (xF bs lim fl ol s'=R)∧Sx B K p pb g bs lim w ov q p1 p2 fl ol wr ov' s')
 case atStart=>exact ⟨ov,s,by omega,HR0,H1.out⟩
 case round=>
  clear H1 HR0;obtain ⟨ov1,s1,hgm,HR,hx⟩:=hrel;have HX:=J hx;have hin:=hx.rs.in_;have b0:=(hx.box.cell 0).trans (show _=some (.pointer (some ⟨p1,0,none⟩)) from rfl);have hst:=hx.rs.steps;clear hx;go_wp2_with fail
  refine (yo HX.out.rs HX.out.c1).mono ?_;rintro e w2 h2;have hR:=HR.out;rw [yG hin] at hR;cases hr1:rdS bs fl s1 with
  | bad er=>
   rw [hr1] at h2 hR;obtain ⟨rfl,ht⟩:=h2;have HR1:=J hR.symm;have HT:=J (HX.out.mv.bad ht);clear hr1 hR ht b0;go_wp2;exact ⟨rfl,RTo.bad HR1.out HT.out⟩
  | ok y s2=>
   rw [hr1] at h2 hR;obtain ⟨rfl,ov2,h2,m2⟩:=h2;obtain ⟨_,k1,k2,k3⟩:=xU hr1;have hs2:s2.steps+1≤s2.at_:=by rw [k3];show s1.steps+1≤s1.at_+ln fl y;omega
   have hat:s1.at_<s2.at_:=by rw [k3];show s1.at_<s1.at_+ln fl y;omega
   have X2:=HX.out.on h2 m2;have c3:=h2.cells.c3;have f3:=h2.cells.f3;obtain ⟨h3,m3⟩:=h2.setSteps (s2.steps+1) hs2 (x:=(s2.steps:Int)+1) (by simp);have X3:=J (X2.on h3 m3);have hi2:=h2.in_;have hy:y<320:=by
    have:=jA (ls:=fl) (s:=y) (by omega);have:=X2.c1.ok.len;omega
   have hstb:=h2.steps;have hlb:=h2.len;clear k3 k1 k2 hr1 h3 m3 h2 m2 X2 b0 HX hst;rw [Res.bind_ok] at hR;by_cases hy1:y<256
   ·rw [if_pos hy1] at hR
    have HR1:=J hR;have hy2:(y:Int)<256:=by omega
    clear hR HR;go_wp2_with fail
    have c1:=X3.out.rs.cells.c1;refine (jT X3.out.rs 1).mono ?_;rintro e w4 ⟨he,nq,rfl⟩;have hR:=HR1.out;by_cases h5:lim<s2.out.length+1
    ·rw [if_neg (by simpa using h5)] at he
     subst he;rw [if_pos h5] at hR;have HR2:=J hR.symm;clear hR h5 c1 c3 f3;go_wp2;exact ⟨rfl,RTo.bad HR2.out (X3.out.mv.trans (X3.out.rs.drewN nq).2).touch⟩
    ·rw [if_pos (by simpa using h5)] at he
     subst he;rw [if_neg h5] at hR;have HR2:=J hR;obtain ⟨h4,m4⟩:=X3.out.rs.drewN nq;have X4:=J (X3.out.on h4 m4);obtain ⟨W,hW⟩:=exq ((w2.setCell ⟨p,3,none⟩ (.int .i64 ((s2.steps:Int)+1))).drewN nq);rw [←hW] at X4 ⊢;obtain ⟨ao,c,rfl⟩:=X4.out.rs.slice;have c1:=X4.out.rs.cells.c1;obtain ⟨xs,hxs⟩:=exq (s2.out);have hxb:xs.length≤3000000:=by rw [hxs];have:=X4.out.rs.out;have:=X4.out.rs.lim_;simp at *;omega
     have hj1:(xs++[y]).length≤lim:=by rw [List.length_append,List.length_singleton,hxs];omega
     have hbV:Bs (xs++[y]):=by rw [hxs];exact yZ X4.out.rs.bytes hy1
     have HOWN:Hid (W.ownsRow B 5 1 (.slice ao xs.length c) xs.length (u8s xs)):=J (by rw [hxs];exact X4.out.rs.own);have c1':W.cell? ⟨p,1,none⟩=some (.slice ao xs.length c):=by rw [hxs];exact c1
     have hB:=X4.out.rs.size;have e8:IntKind.u8.wrap (y:Int)=y:=by rw [IntKind.wrap_u8'];omega
     have HXS:=J hxs;clear h5 h4 m4 X3 c1 c3 f3 hW hR hxs HR1;go_wp2_with (refine zx rfl (.tmp 30) (.tmp 33) rfl B (.slice ao xs.length c) (.slice (some ⟨W.heap.size,0,none⟩) 1 1) xs [y] rfl rfl (World.ownsRow.alloc (w:=W) HOWN.out _) (yq W y rfl) (by simp;omega) (by simp;omega) ?_;intro ao2 cc2 w5 hA;obtain ⟨r1,r2,r3,r4⟩:=X4.out.rs.mid0 (by rw [←HXS.out];exact hA) hj1 hbV;rw [List.length_append,List.length_singleton] at r3 r4;rw [←HXS.out] at r1;have R3:=J r3;have R4:=J r4;clear r3 r4 hA);go_roundg (8*bs.length+1-s2.at_)
     case measure=>omega
     case rel=>
      refine ⟨_,{ s2 with steps:=s2.steps+1,out:=xs++[y] },Nat.le_refl _,?_,X4.out.on R3.out R4.out⟩;have:=HR2.out;rw [HXS.out];exact J this
   ·rw [if_neg hy1] at hR
    by_cases hy2:y=256
    ·subst hy2
     rw [if_pos rfl] at hR;have HR1:=J hR.symm;clear hR HR hy1;go_wp2;refine bodyPost_ret (results_none rfl _ _ _) rfl ?_;exact RTo.ok HR1.out X3.out.rs X3.out.mv
    ·rw [if_neg hy2] at hR
     have HR1:=J hR;have d1:¬(y:Int)<256:=by omega
     have d2:((y:Int) == 256)=false:=by simp;omega
     have b1:=(X3.out.box.cell 1).trans (show _=some (.pointer (some ⟨p2,0,none⟩)) from rfl);clear hR HR hy1 hy2;go_wp2_with fail
     refine (zdi X3.out.rs X3.out.c2 y).mono ?_;rintro e w4 h4;have hR:=HR1.out;cases hr2:again bs lim ol y { s2 with steps:=s2.steps+1 } with
     | bad er=>
      rw [hr2] at h4 hR;obtain ⟨rfl,ht⟩:=h4;have HR2:=J hR.symm;have HT:=J (X3.out.mv.bad ht);clear hr2 hR ht b1 c3 f3;go_wp2;exact ⟨rfl,RTo.bad HR2.out HT.out⟩
     | ok u s4=>
      rw [hr2] at h4 hR;obtain ⟨rfl,ov4,h4,m4⟩:=h4;have HR2:=J hR;have hle:=(JO (lim:=lim) ol y { s2 with steps:=s2.steps+1 } _ _ hi2 hr2).at_;have hle':s2.at_≤s4.at_:=hle;have X4:=J (X3.out.on h4 m4);clear hr2 hR b1 c3 f3 h4 m4 hle;go_wp2;go_roundg (8*bs.length+1-s4.at_)
      case measure=>omega
      case rel=>exact ⟨_,_,Nat.le_refl _,HR2,X4.out⟩
end
theorem zkd (n:Nat) (h:n<65536):n ^^^ 65535=65535-n:=by
 rw [show 65535-n=2^16-(n+1) by omega];apply Nat.eq_of_testBit_eq;intro i;rw [Nat.testBit_xor,Nat.testBit_two_pow_sub_succ (by omega),show (65535:Nat)=2^16-1 by decide,Nat.testBit_two_pow_sub_one];by_cases hi:i<16
 ·simp [hi]
 ·have:n.testBit i=false:=Nat.testBit_lt_two_pow (Nat.lt_of_lt_of_le (show n<2^16 by omega) (Nat.pow_le_pow_right (by omega) (by omega)))
  simp [hi,this]
theorem zgu (n:Nat) (h:n<65536):bits BinOp.xor IntKind.i64 (n:Int) 65535=((65535-n:Nat):Int):=by
 rw [←zkd n h];have h1:n ^^^ 65535<65536:=Nat.xor_lt_two_pow (n:=16) h (by decide);have e:(65535:Int)=((65535:Nat):Int):=rfl;rw [e];have a':n%2^IntKind.i64.bits=n:=Nat.mod_eq_of_lt (Nat.lt_of_lt_of_le h (by decide));have b':65535%2^IntKind.i64.bits=65535:=by decide
 simp only [bits,BitVec.ofInt_natCast,BitVec.toNat_xor,BitVec.toNat_ofNat,a',b'];rw [IntKind.wrap_i64];omega
section
variable {B K p pb:Nat}{g:Option Nat}{bs:List Nat}{lim:Nat}{w:World}{ov:Value}{s:Sta}
theorem qE {n:Nat}{t:Sta}{v:Nat}(h:rdN bs n s=.ok v t):v<2^n:=by
 obtain ⟨_,h4,_⟩:=xn h;rw [h4];exact vX bs s.at_ n
theorem RS.mid1 {w1:World}{ov':Value}{xs:List Nat}(h:RS B K p pb g bs lim w ov s) (hA:Apd w B ov xs ov' w1) (hx:xs.length≤lim) (hb':Bs xs) :
  w1.cell? ⟨p,1,none⟩=some ov∧w1.frozen? ⟨p,1,none⟩=false∧RS B K p pb g bs lim (w1.setCell ⟨p,1,none⟩ ov') ov' { s with out:=xs }∧Mv p pb w ov (w1.setCell ⟨p,1,none⟩ ov') ov':=by
 obtain ⟨fx,hb,_⟩:=h.blk;have hb1:Blk w1 p 49 (rc pb ov lim s fx):=hb.touch hA.touch fun e=>((h.ne).2.1 _ e).1 rfl
 obtain ⟨h2,k2⟩:=h.setOut hA hx hb';exact ⟨(hb1.cell 1).trans rfl,hb1.free 1,h2,k2⟩
set_option maxHeartbeats 3200000 in
theorem zbx (h:RS B K p pb g bs lim w ov s) :
  Calls prog 61 #[.pointer (some ⟨p,0,none⟩)] w (RTo B K p pb g bs lim w ov uv (stored bs lim s)):=by
 obtain ⟨R,hR⟩:=exq (stored bs lim s);rw [←hR];unfold stored at hR;have HR:=J hR;have hin:=h.in_;have hlen:=h.len;have c0:=h.cells.c0;have HA:=J (h.ob.ralign (by omega));have HM:=J fun w' (k:qB w B 67 pb g bs (up8 s.at_) w')=>h.moved k (zaH _) (vB hin)
 clear hR h;go_enter func61,ntmps61;go_wp2_with fail
 refine HA.out.mono ?_;rintro e w0 ⟨rfl,hm⟩;obtain ⟨h0,m0⟩:=HM.out w0 hm;clear c0 HA HM hm;go_wp2_with fail
 refine (zY h0 16 (by omega)).mono ?_;rintro e w1 h1;have hR:=HR.out;cases hr1:rdN bs 16 { s with at_:=up8 s.at_ } with
 | bad er=>
  rw [hr1] at h1 hR;obtain ⟨rfl,ht⟩:=h1;have HR1:=J hR;clear hr1 hR h0;go_wp2;exact ⟨rfl,RTo.bad HR1.out (m0.bad ht)⟩
 | ok n s1=>
  rw [hr1,Res.bind_ok] at hR;rw [hr1] at h1;obtain ⟨rfl,ov1,h1,m1⟩:=h1;have hn:=qE hr1;have hn6:n<65536:=hn;have q1:=(xn hr1).2.2;have M1:=J (m0.trans m1);have HR1:=J hR;clear hr1 hR h0 m0 m1 hn HR;go_wp2_with fail
  refine (zY h1 16 (by omega)).mono ?_;rintro e w2 h2;have hR:=HR1.out;cases hr2:rdN bs 16 s1 with
  | bad er=>
   rw [hr2] at h2 hR;obtain ⟨rfl,ht⟩:=h2;have HR2:=J hR;clear hr2 hR h1 q1;go_wp2;exact ⟨rfl,RTo.bad HR2.out (M1.out.bad ht)⟩
  | ok m s2=>
   rw [hr2,Res.bind_ok] at hR;rw [hr2] at h2;obtain ⟨rfl,ov2,h2,m2⟩:=h2;have hm6:m<65536:=qE hr2;have q2:=(xn hr2).2.2;have hal:s2.at_%8=0:=by rw [q2,q1];show (up8 s.at_+16+16)%8=0;unfold up8;omega
   have M2:=J (M1.out.trans m2);clear hr2 h1 m2 q1 q2 HR1 M1;have hx:=zgu n hn6;obtain ⟨z,hz⟩:=exq (65535-n);rw [←hz] at hx hR;by_cases h4:m≠z
   ·rw [if_pos h4] at hR
    have HR2:=J hR;have d1:((m:Int) == (z:Int))=false:=by simp;omega
    clear hR h4 hz h2 hal;go_wp2_with (go_at_call 60;refine (qa 10 _).mono ?_;rintro e w4 ⟨rfl,rfl⟩);exact ⟨rfl,RTo.bad HR2.out M2.out.touch⟩
   ·rw [if_neg h4] at hR
    have d1:((m:Int) == (z:Int))=true:=by simp;omega
    have HR2:=J hR;have c0:=h2.cells.c0;have H2:=J h2;have hin2:=h2.in_;have hlen2:=h2.len;clear h4 hz hR h2;by_cases h5:8*bs.length<s2.at_+8*n
    ·have hR:=HR2.out
     rw [if_pos h5] at hR;have HR3:=J hR;have HB:=J (H2.out.ob.bytes_no (by omega) hin2 n (by omega));clear hR h5 HR2;go_wp2_with (first
      | (go_at_call 60;(with_reducible refine (zE _ _).mono ?_);rintro e w4 ⟨rfl,rfl⟩)
      | (go_at_call 96;(refine HB.out.mono ?_);rintro e w4 ⟨rfl,rfl⟩)
      | (go_at_call 60;refine (qa 15 _).mono ?_;rintro e w4 ⟨rfl,rfl⟩))
     exact ⟨rfl,RTo.bad HR3.out M2.out.touch⟩
    ·have hR:=HR2.out
     rw [if_neg h5] at hR;have HR3:=J hR;have HB:=J (H2.out.ob.bytes_yes (by omega) hin2 n (by omega));have hf:(s2.at_+7)/8=s2.at_/8:=by omega
     rw [hf] at HB;have hq:(s2.at_/8+n)*8=s2.at_+8*n:=by omega
     rw [hq] at HB;clear hR HR2 hf hq;go_wp2_with (go_at_call 60;(with_reducible refine (zE _ _).mono ?_);rintro e w4 ⟨rfl,rfl⟩);refine HB.out.mono ?_;rintro e w4 ⟨a,c,rfl,hown,hlow,ho,ht⟩;obtain ⟨h4,m4⟩:=H2.out.moved ⟨ho,ht⟩ (by omega) (by omega);have M4:=J (M2.out.trans m4);obtain ⟨xs,hxs⟩:=exq ((bs.drop (s2.at_/8)).take n);have hxl:xs.length=n:=by rw [hxs,List.length_take,List.length_drop];omega
     have hxb:Bs xs:=by rw [hxs];exact zgD H2.out.ob.hb _ _
     rw [←hxs] at hown ⊢;have HOWN:=J hown;have hR:=HR3.out;rw [←hxs] at hR;have HXL:=J hxl;have HR5:=J hR;clear hown hlow ho ht m4 HB c0 M2 hxs hxl HR3 hR;go_wp2_with (go_at_call 60;(with_reducible refine (zE _ _).mono ?_);rintro e w5 ⟨rfl,rfl⟩);refine (jT h4 n).mono ?_;rintro e w5 ⟨he,nq,rfl⟩;have hR:=HR5.out;by_cases h6:lim<s2.out.length+n
     ·rw [if_neg (by simpa using h6)] at he
      subst he;rw [if_pos h6] at hR;have HR4:=J hR;clear hR h6;go_wp2;exact ⟨rfl,RTo.bad HR4.out (M4.out.trans (h4.drewN nq).2).touch⟩
     ·rw [if_pos (by simpa using h6)] at he
      subst he;rw [if_neg h6] at hR;have HR4:=J hR;obtain ⟨h7,m7⟩:=h4.drewN nq;have M7:=J (M4.out.trans m7);have HSR:Hid (zi (w4.drewN nq) (.slice a xs.length c) xs):=J ((zi.own HOWN.out).touch ((Touch.refl (fun _=>False) w4).drewN nq) (fun _ _ h=>h));obtain ⟨W,hW⟩:=exq (w4.drewN nq);rw [←hW] at h7 M7 HSR ⊢;obtain ⟨ao,c1,rfl⟩:=h7.slice;obtain ⟨l,hl⟩:=exq (s2.out);have h6':l.length+xs.length≤lim:=by rw [hl,HXL.out];omega
      have hlim:=h7.lim_;have p1:=h7.cells.c1;have HO7:Hid (W.ownsRow B 5 1 (.slice ao l.length c1) l.length (u8s l)):=J (by rw [hl];exact h7.own);have hB:=h7.size;have hbb:Bs (l++xs):=fun x hx=>by
       rcases List.mem_append.1 hx with hx | hx
       ·rw [hl] at hx;exact h7.bytes x hx
       ·exact hxb x hx
      have h6'':(l++xs).length≤lim:=by rw [List.length_append];exact h6'
      have HL:=J hl;have p1':W.cell? ⟨p,1,none⟩=some (.slice ao l.length c1):=by rw [hl];exact p1
      have hst:s2.steps≤800000:=by have:=h7.steps;have:=h7.in_;simp at *;omega
      have hst2:s2.steps+n≤s2.at_+8*n:=by have:=H2.out.steps;omega
      have H7:=J h7;clear hR h6 h7 m7 h4 hW hl p1 M4 HR5 H2 HOWN;go_wp2_with (refine zx rfl (.tmp 38) (.tmp 39) rfl B (.slice ao l.length c1) (.slice a xs.length c) l xs rfl rfl HO7.out HSR.out (by omega) (by omega) ?_;intro ao2 cc2 w5 hA;obtain ⟨r1,r2,r3,r4⟩:=H7.out.mid1 (by rw [←HL.out];exact hA) h6'' hbb;rw [←HL.out] at r1;rw [List.length_append] at r3 r4;have r5:=r3.cells.c3;have r6:=r3.cells.f3;have R3:=J r3;have R4:=J r4;clear r3 r4 hA);go_end0;obtain ⟨h8,m8⟩:=R3.out.setSteps (s2.steps+n) hst2 (x:=(s2.steps:Int)+n) (by simp);refine RTo.ok (a:=()) ?_ h8 ((M7.out.trans R4.out).trans m8);rw [HR4.out,HL.out]
end
theorem zd0 (n:Nat) (w:World) (hn:n≤1000) :
  Calls prog 173 #[.int .u64 1,.int .u64 n] w fun e w'=>e=.returned (.tuple #[.int .u64 0,.int .u64 n])∧w=w':=by
 have e1:bits BinOp.and IntKind.u64 1 4294967295=1:=by decide
 have e2:bits BinOp.and IntKind.u64 (n:Int) 4294967295=n:=by
  have h:=bits_and_u64_nat n 4294967295 (by omega) (by decide);have e:n &&& 4294967295=n:=by
   rw [show (4294967295:Nat)=2^32-1 by decide,Nat.and_two_pow_sub_one_eq_mod];exact Nat.mod_eq_of_lt (by omega)
  rw [e] at h;exact h
 have e3:bits BinOp.and IntKind.u64 0 4294967295=0:=by decide
 have e4:(n:Int)/4294967296=0:=by omega
 go_enter func173,ntmps173;go_wp2;go_ret2
 exact ⟨rfl,rfl⟩
theorem zhh (n:Nat) (w:World) (hn:n≤1000) :
  Calls prog 153 #[.int .u64 1,.int .u64 n] w fun e w'=>e=.returned (.tuple #[.int .u64 0,.int .u64 n])∧w=w':=by
 go_enter func153,ntmps153;go_wp2_with (go_at_call 173;(refine (zd0 n _ hn).mono ?_);rintro e w2 ⟨rfl,rfl⟩);go_ret2
 exact ⟨rfl,rfl⟩
def fill (n x i:Nat):List Value:=(List.range n).map fun j => .int .i64 ((if j<i then x else 0:Nat):Int)
theorem jj (n x i:Nat):(fill n x i).length=n:=by simp [fill]
theorem yO (n x i j:Nat) (h:j<n):(fill n x i)[j]? = some (.int .i64 ((if j<i then x else 0:Nat):Int)):=by simp [fill,h]
theorem u9 (n x i m:Nat) (h:i+m≤n):splice (fill n x i) i (List.replicate m (.int .i64 (x:Nat)))=fill n x (i+m):=by
 have hl:(splice (fill n x i) i (List.replicate m (.int .i64 (x:Nat)))).length=n:=by rw [length_splice _ _ _ (by simp [jj];omega),jj]
 apply List.ext_getElem?;intro j;rcases Nat.lt_or_ge j n with hj | hj
 ·rw [yO _ _ _ _ hj]
  unfold splice;rw [List.getElem?_append];have ht:(List.take i (fill n x i)).length=i:=by rw [List.length_take,jj];omega
  rw [ht];split
  ·rename_i h1
   rw [List.getElem?_take_of_lt h1,yO _ _ _ _ hj,if_pos h1,if_pos (by omega)]
  ·rename_i h1
   rw [List.getElem?_append,List.length_replicate];split
   ·rename_i h2
    rw [List.getElem?_replicate,if_pos h2,if_pos (by omega)]
   ·rename_i h2
    rw [List.getElem?_drop,show i+m+(j-i-m)=j by omega,yO _ _ _ _ hj,if_neg (by omega),if_neg (by omega)]
 ·rw [List.getElem?_eq_none (by omega),List.getElem?_eq_none (by rw [jj];exact hj)]
theorem zdF (n x:Nat):va (n*1) (fun i=>(Value.int .i64 0).cells[i%(Value.int .i64 0).cells.size]!)=(fill n x 0).toArray:=by
 rw [Nat.mul_one];unfold va fill;congr 1
 apply List.map_congr_left;intro j _;simp [Value.cells,Nat.mod_one]
set_option maxHeartbeats 1600000 in
theorem zbo (b x n:Nat) (w:World) (h1:1≤n) (hn:n≤1000) (hc:w.cell? ⟨b,0,none⟩=some (.int .i64 (x:Nat))) :
  Calls prog 121 #[.slice (some ⟨b,0,none⟩) 1 1,.int .i64 n] w fun e w'=>e=.returned (.slice (some ⟨w.heap.size,0,none⟩) n n)∧Blk w' w.heap.size 3 (fill n x n).toArray∧Below w.heap.size w w':=by
 have HC:=J hc;have hbl:b<w.heap.size:=World.block_lt_of_cell? w _ hc;obtain ⟨g,hg⟩:=exq (w.heap.size);rw [←hg] at hbl ⊢;have HG:=J hg;clear hc hg;go_enter func121,ntmps121;go_wp2_with (first
  | (go_at_call 153;(refine (zhh n _ hn).mono ?_);rintro e w2 ⟨rfl,rfl⟩)
  | (refine zy rfl 40 (.tmp 29) (.tmp 29) rfl 3 (.int .i64 0) 1 8 n underlying40 (by kernel_rfl) .i64 .i64 _ _ rfl rfl rfl rfl (by omega) (by omega) ?_;intro W hb1 ht1 hs1;rw [zdF n x] at hb1;rw [←HG.out] at hb1 ⊢;have HB:=J hb1;have HT:=J ht1;have HS:=J hs1;clear hb1 ht1 hs1)
  | (refine wpList_copy_splice rfl (.tmp 31) (.tmp 32) 40 40 rfl 3 underlying40 (by kernel_rfl) (some ⟨g,0,none⟩) (some ⟨b,0,none⟩) n n 1 1 rfl rfl g 0 (fill n x 0) 3 HB.out (List.replicate 1 (.int .i64 (x:Nat))) (by rw [List.length_replicate];exact (Nat.min_eq_left h1).symm) (fun _=>⟨rfl,⟨b,0,none⟩,rfl,fun j v hv=>by
    have hj:j=0:=by have:=(List.getElem?_eq_some_iff.1 hv).1;simp at this;exact this
    subst hj;simp at hv;subst hv;rw [Addr.add_lit];exact ((Below.cell (HT.out.below (B:=w.heap.size) (Nat.le_refl _) fun _ h=>h.elim) (p:=⟨b,0,none⟩) (by rw [←HG.out];exact hbl))).trans HC.out⟩) (by simp [jj];omega) (by simp [Value.oneCell']) g w (HT.out.below (by rw [HG.out];exact Nat.le_refl _) fun _ h=>h.elim) (Nat.le_refl _) ?_;intro W2 hb2 hl2;have HB2:=J (hb2.out);have HL2:=J hl2;clear hb2 hl2))
 have H1:Hid (Blk W2 g 3 (fill n x 1).toArray):=J (by have h:=HB2.out;rw [u9 n x 0 1 (by omega)] at h;exact h);clear HB2 HB HT HS HC;go_loopw [8] (fun iv' wr=>∃ i:Nat,1≤i∧i≤n∧iv' = .int .i64 i∧Blk wr g 3 (fill n x i).toArray∧Below g w wr) (fun iv' _=>n-(intOf iv').toNat)
 case atStart=>exact ⟨1,Nat.le_refl _,h1,by simp,H1.out,HL2.out⟩
 case round=>
  clear H1 HL2;obtain ⟨i,hi1,hi,rfl,hb3,hl3⟩:=hrel;have HB3:=J hb3;have HL3:=J hl3;clear hb3 hl3;by_cases hlt:i<n
  ·obtain ⟨m,hm⟩:=exq (Nat.min i (n-i))
   have hm1:1≤m:=by rw [hm];exact Nat.le_min.2 ⟨hi1,by omega⟩
   have hm2:i+m≤n:=by
                 have:m≤n-i:=by rw [hm];exact Nat.min_le_right _ _
                 omega
   have hm3:m≤i:=by rw [hm];exact Nat.min_le_left _ _
   have HM:=J hm;clear hm;have hin:(i:Int)<n:=by omega
   have hne:¬(n=i):=by omega
   have HW:Hid (IntKind.i64.wrap ((i:Int)+(m:Int))=((i+m:Nat):Int)):=J (by rw [IntKind.wrap_i64];omega);have HP:Hid (∀ j v,(List.replicate m (Value.int .i64 (x:Nat)))[j]? = some v→wr.drew.cell? ((⟨g,0,none⟩:Addr).add j)=some v):=J fun j v hv=>by
    have hj:j<m:=by have:=(List.getElem?_eq_some_iff.1 hv).1;simpa using this
    rw [List.getElem?_replicate,if_pos hj] at hv;rw [Addr.add_lit,Nat.zero_add];refine (HB3.out.cell j).trans ?_;rw [List.getElem?_toArray,yO _ _ _ _ (by omega),if_pos (by omega)];exact hv
   go_wp2;go_region_law (refine step_copy_splice rfl (.tmp 41) (.tmp 44) 40 40 rfl 3 underlying40 (by kernel_rfl) (some ⟨g,i,none⟩) (some ⟨g,0,none⟩) (n-i) (n-i) i n (by simp [Act.eval,Act.put]) (by simp [Act.eval,Act.put]) g i (fill n x i) 3 HB3.out (List.replicate m (.int .i64 (x:Nat))) (by rw [List.length_replicate];exact HM.out) (fun _=>⟨rfl,⟨g,0,none⟩,rfl,HP.out⟩) (by simp [jj];omega) (by simp [Value.oneCell']) g w (zQ HL3.out) (Nat.le_refl _) ?_;intro W4 hb4 hl4;have h4:=hb4.out;rw [u9 n x i m (by omega)] at h4;have HB4:Hid (Blk W4 g 3 (fill n x (i+m)).toArray):=J h4;have HL4:=J hl4;clear hb4 hl4 h4)
   all_goals
    go_wp2;go_roundw;case rel=>
     repeat apply Exists.intro
     refine ⟨?_,rfl⟩;exact ⟨i+m,by omega,by omega,congrArg (Value.int .i64) HW.out,HB4.out,HL4.out⟩
    case measure=>simp [intOf,Act.put,HW.out];omega
  ·have hj':i=n:=by omega
   subst hj';have hii:¬((i:Int)<i):=by omega
   go_wp2;go_ret;exact ⟨rfl,HB3.out,HL3.out⟩
end
end Go.Proofs.YtacpfpghokcdlaaGreatDoor
